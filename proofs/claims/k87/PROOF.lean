import PyProof.Rows.All
import Wide.All
import OpenK.AllK
import Wide.FinOn
import HandS.Walk
import KE.DatumOrd
import KE.KDictZip
import KE.GoesMore
import HandS.ForMost
import HandS.ForExc
import HandS.Star
import HandS.Gcd
import HandS.Wide
import HandS.IsInst
import HandS.Style
import HandS.Codes
import HandS.Sort
import HandS.TupAny
import HandS.OwnEq
import HandS.ClsMeth
import HandS.MakeKw
import HandS.MakeKwOnly
import HandS.IterVal
import HandS.Lambda
import KE.KOwnIter
import HandS.EndTab
import KE.KExcIs
import KE.DataMinMax
import HandS.AnyAll
import HandS.Zip
import HandS.SortRule
import PySem.Challenge.RW_wheelreach_k87_plays_told_back_from_logs
set_option Elab.async false
set_option linter.all false
set_option maxRecDepth 100000
set_option maxHeartbeats 4000000
/-! Numbers: divisors, multiples, remainders put together, as plain functions, and what holds of them. -/
namespace NM

/-! ### common, multiple -/
def gcdL (ns : List Int) : Nat := ns.foldl (fun g n => Nat.gcd g n.natAbs) 0
def lcmL (ns : List Int) : Nat := ns.foldl (fun g n => Nat.lcm g n.natAbs) 1
theorem gcdL_snoc (l : List Int) (z : Int) : gcdL (l ++ [z]) = Nat.gcd (gcdL l) z.natAbs := by
  unfold gcdL; rw [List.foldl_append]; rfl
theorem lcmL_snoc (l : List Int) (z : Int) : lcmL (l ++ [z]) = Nat.lcm (lcmL l) z.natAbs := by
  unfold lcmL; rw [List.foldl_append]; rfl
theorem take_snoc {α : Type} : ∀ {l : List α} {i : Nat} {x : α}, l[i]? = some x → l.take (i + 1) = l.take i ++ [x]
  | [], i, x, h => by simp at h
  | a :: l, 0, x, h => by
    have e : a = x := Option.some.inj h
    subst e
    rfl
  | a :: l, i + 1, x, h => by
    have ih := take_snoc (l := l) (i := i) (x := x) h
    show a :: l.take (i + 1) = a :: l.take i ++ [x]
    rw [ih]
    rfl
theorem lcm_step {f n : Int} (hf : 0 < f) (hn : 0 < n) : f / ((Nat.gcd f.natAbs n.natAbs : Nat) : Int) * n = ((Nat.lcm f.natAbs n.natAbs : Nat) : Int) := by
  obtain ⟨a, rfl⟩ : ∃ a : Nat, f = (a : Int) := ⟨f.toNat, by omega⟩
  obtain ⟨b, rfl⟩ : ∃ b : Nat, n = (b : Int) := ⟨n.toNat, by omega⟩
  simp only [Int.natAbs_natCast]
  have h := Nat.gcd_dvd_left a b
  rw [← Int.natCast_ediv, ← Int.natCast_mul]
  congr 1
  unfold Nat.lcm
  rw [Nat.mul_comm (a / _) b, Nat.mul_comm a b, Nat.mul_div_assoc _ h]
theorem lcmL_pos {l : List Int} (h : ∀ z ∈ l, 0 < z) : 0 < lcmL l := by
  unfold lcmL
  suffices ∀ (l : List Int) (a : Nat), 0 < a → (∀ z ∈ l, 0 < z) → 0 < l.foldl (fun g n => Nat.lcm g n.natAbs) a from this l 1 (by decide) h
  intro l
  induction l with
  | nil => intro a ha _; exact ha
  | cons z l ih =>
    intro a ha h
    refine ih _ ?_ (fun y hy => h y (List.mem_cons_of_mem _ hy))
    have hz := h z List.mem_cons_self
    exact Nat.lcm_pos ha (by omega)
theorem lcm_le_mul {a b : Nat} (ha : 0 < a) (hb : 0 < b) : Nat.lcm a b ≤ a * b := Nat.le_of_dvd (Nat.mul_pos ha hb) (Nat.lcm_dvd_mul a b)

/-! ### how far from a multiple -/
def apartI (d p : Int) : Int := if p - d % p < d % p then p - d % p else d % p
theorem apart_nn {d p : Int} (hp : 0 < p) : 0 ≤ apartI d p := by
  unfold apartI
  have h1 := Int.emod_nonneg d (show p ≠ 0 by omega)
  have h2 := Int.emod_lt_of_pos d hp
  split <;> omega
theorem apart_half {d p : Int} (hp : 0 < p) : 2 * apartI d p ≤ p := by
  unfold apartI
  have h1 := Int.emod_nonneg d (show p ≠ 0 by omega)
  have h2 := Int.emod_lt_of_pos d hp
  split <;> omega
/-- the nearest multiple is that far away -/
theorem apart_at {d p : Int} (hp : 0 < p) : ∃ k, d = p * k + apartI d p ∨ d = p * k - apartI d p := by
  have e := Int.mul_ediv_add_emod d p
  unfold apartI
  split
  · refine ⟨d / p + 1, .inr ?_⟩
    rw [Int.mul_add]; omega
  · exact ⟨d / p, .inl (by omega)⟩
/-- no multiple is nearer -/
theorem apart_le {d p : Int} (hp : 0 < p) (k a : Int) (h : d = p * k + a) : apartI d p ≤ (a.natAbs : Int) := by
  have e1 : d % p = a % p := by rw [h, Int.add_comm, Int.add_mul_emod_self_left]
  have h1 := Int.emod_nonneg a (show p ≠ 0 by omega)
  have h2 := Int.emod_lt_of_pos a hp
  have e := Int.mul_ediv_add_emod a p
  unfold apartI
  rw [e1]
  by_cases h0 : 0 ≤ a
  · have : a % p ≤ a := by
      have : 0 ≤ a / p := Int.ediv_nonneg h0 (by omega)
      have := Int.mul_nonneg (show 0 ≤ p by omega) this
      omega
    split <;> omega
  · have hq : a / p ≤ -1 := by
      have := Int.ediv_lt_of_lt_mul hp (show a < 0 * p by omega)
      omega
    have : p * (a / p) ≤ p * (-1) := Int.mul_le_mul_of_nonneg_left hq (by omega)
    split <;> omega
theorem apart_neg {d p : Int} (hp : 0 < p) : apartI (-d) p = apartI d p := by
  have aux : ∀ x : Int, apartI (-x) p ≤ apartI x p := fun x => by
    obtain ⟨k, h | h⟩ := apart_at (d := x) hp
    · have := apart_le (d := -x) hp (-k) (-apartI x p) (by rw [Int.mul_neg]; omega)
      have := apart_nn (d := x) hp
      omega
    · have := apart_le (d := -x) hp (-k) (apartI x p) (by rw [Int.mul_neg]; omega)
      have := apart_nn (d := x) hp
      omega
  have h1 := aux d
  have h2 := aux (-d)
  rw [Int.neg_neg] at h2
  omega
theorem apart_round {d p : Int} (hp : 0 < p) (k : Int) : apartI (d + p * k) p = apartI d p := by
  unfold apartI
  rw [Int.add_mul_emod_self_left]
theorem apart_tri {d e p : Int} (hp : 0 < p) : apartI (d + e) p ≤ apartI d p + apartI e p := by
  have n1 := apart_nn (d := d) hp
  have n2 := apart_nn (d := e) hp
  obtain ⟨k, h⟩ := apart_at (d := d) hp
  obtain ⟨l, g⟩ := apart_at (d := e) hp
  have fin : ∀ a : Int, d + e = p * (k + l) + a → (a.natAbs : Int) ≤ apartI d p + apartI e p → apartI (d + e) p ≤ apartI d p + apartI e p := fun a ha hb =>
    Int.le_trans (apart_le hp (k + l) a ha) hb
  have ex : p * (k + l) = p * k + p * l := Int.mul_add _ _ _
  rcases h with h | h <;> rcases g with g | g
  · exact fin (apartI d p + apartI e p) (by rw [ex]; omega) (by omega)
  · exact fin (apartI d p - apartI e p) (by rw [ex]; omega) (by omega)
  · exact fin (-apartI d p + apartI e p) (by rw [ex]; omega) (by omega)
  · exact fin (-apartI d p - apartI e p) (by rw [ex]; omega) (by omega)
theorem apart_mult {p k : Int} (hp : 0 < p) : apartI (p * k) p = 0 := by
  unfold apartI
  rw [Int.mul_emod_right]
  split <;> omega
theorem apart_self {p : Int} (hp : 0 < p) : apartI p p = 0 := by
  have h := apart_mult (k := 1) hp
  rwa [Int.mul_one] at h
theorem apart_reach {d p : Int} (hp : 0 < p) : apartI (d - apartI d p) p = 0 ∨ apartI (d + apartI d p) p = 0 := by
  obtain ⟨k, h | h⟩ := apart_at (d := d) hp
  · left
    have e : d - apartI d p = p * k := by omega
    rw [e]; exact apart_mult hp
  · right
    have e : d + apartI d p = p * k := by omega
    rw [e]; exact apart_mult hp

theorem gcd_emod (a b : Int) : Int.gcd (a % b) b = Int.gcd a b := by
  have e := Int.mul_ediv_add_emod a b
  have h : a % b = a - a / b * b := by rw [Int.mul_comm]; omega
  rw [h]; exact Int.gcd_sub_mul_right_left _ _ _
/-! ### the inverse, by Euclid's division -/
structure Euc (number divisor left right found following : Int) : Prop where
  l : 0 < left
  r : 0 ≤ right
  rl : right < left ∨ left = divisor
  le : left ≤ divisor
  rd : right < divisor
  g : Nat.gcd left.natAbs right.natAbs = Nat.gcd divisor.natAbs number.natAbs
  c1 : divisor ∣ found * number - left
  c2 : divisor ∣ following * number - right
  s : (found ≤ 0 ∧ 0 ≤ following ∧ left * following - right * found = divisor) ∨ (0 ≤ found ∧ following ≤ 0 ∧ right * found - left * following = divisor)
theorem Euc.start {number divisor : Int} (hd : 0 < divisor) : Euc number divisor divisor (number % divisor) 0 1 where
  l := hd
  r := Int.emod_nonneg _ (by omega)
  rl := .inr rfl
  le := Int.le_refl _
  rd := Int.emod_lt_of_pos _ hd
  g := by
    have e := Int.mul_ediv_add_emod number divisor
    have h : ((Nat.gcd divisor.natAbs (number % divisor).natAbs : Nat) : Int) = ((Nat.gcd divisor.natAbs number.natAbs : Nat) : Int) := by
      show ((Int.gcd divisor (number % divisor) : Nat) : Int) = ((Int.gcd divisor number : Nat) : Int)
      congr 1
      rw [Int.gcd_comm, Int.gcd_comm divisor number]
      exact gcd_emod _ _
    exact Int.natCast_inj.mp h
  c1 := ⟨-1, by omega⟩
  c2 := by
    have e := Int.mul_ediv_add_emod number divisor
    exact ⟨number / divisor, by omega⟩
  s := .inl ⟨Int.le_refl _, by omega, by omega⟩
theorem Euc.turn {number divisor left right found following : Int} (E : Euc number divisor left right found following) (h : right ≠ 0) :
    Euc number divisor right (left - left / right * right) following (found - left / right * following) := by
  have hr : 0 < right := by have := E.r; omega
  have e := Int.mul_ediv_add_emod left right
  have em : left - left / right * right = left % right := by rw [Int.mul_comm]; omega
  have h1 := Int.emod_nonneg left (show right ≠ 0 by omega)
  have h2 := Int.emod_lt_of_pos left hr
  have hq : 0 ≤ left / right := Int.ediv_nonneg (Int.le_of_lt E.l) (by omega)
  have lrd := E.rd
  refine ⟨hr, by omega, .inl (by omega), by omega, by omega, ?_, E.c2, ?_, ?_⟩
  · rw [← E.g, em]
    show Int.gcd right (left % right) = Int.gcd left right
    rw [Int.gcd_comm]
    exact gcd_emod _ _
  · obtain ⟨a, ha⟩ := E.c1
    obtain ⟨b, hb⟩ := E.c2
    refine ⟨a - left / right * b, ?_⟩
    rw [Int.sub_mul, Int.mul_sub]
    have x1 : left / right * following * number = left / right * (following * number) := Int.mul_assoc _ _ _
    have x2 : divisor * (left / right * b) = left / right * (divisor * b) := by rw [← Int.mul_assoc, Int.mul_comm divisor, Int.mul_assoc]
    rw [x1, x2, ← hb, ← ha, Int.mul_sub]
    omega
  · have hm : ∀ x : Int, 0 ≤ x → 0 ≤ left / right * x := fun x hx => Int.mul_nonneg hq hx
    have hn : ∀ x : Int, x ≤ 0 → left / right * x ≤ 0 := fun x hx => by
      have := Int.mul_nonneg hq (show 0 ≤ -x by omega)
      rw [Int.mul_neg] at this
      omega
    have y1 : right * (found - left / right * following) = right * found - right * (left / right * following) := Int.mul_sub _ _ _
    have y2 : (left - left / right * right) * following = left * following - left / right * right * following := Int.sub_mul _ _ _
    have y3 : left / right * right * following = right * (left / right * following) := by rw [Int.mul_comm (left / right) right, Int.mul_assoc]
    rcases E.s with ⟨s1, s2, s3⟩ | ⟨s1, s2, s3⟩
    · refine .inr ⟨s2, by have := hm _ s2; omega, ?_⟩
      rw [y1, y2, y3]; omega
    · refine .inl ⟨s2, by have := hn _ s2; omega, ?_⟩
      rw [y1, y2, y3]; omega
theorem Euc.less {number divisor left right found following : Int} (E : Euc number divisor left right found following) (h : right ≠ 0) : (left - left / right * right).toNat < right.toNat := by
  have hr : 0 < right := by have := E.r; omega
  have e := Int.mul_ediv_add_emod left right
  have em : left - left / right * right = left % right := by rw [Int.mul_comm]; omega
  have h1 := Int.emod_nonneg left (show right ≠ 0 by omega)
  have h2 := Int.emod_lt_of_pos left hr
  omega
/-- the sizes -/
theorem Euc.size {number divisor left right found following : Int} (E : Euc number divisor left right found following) : following.natAbs ≤ divisor.natAbs ∧ (right ≠ 0 → found.natAbs ≤ divisor.natAbs) := by
  have l := E.l
  have r := E.r
  have key : ∀ a b c e : Int, 0 < a → 0 ≤ b → 0 ≤ c → 0 ≤ e → a * c + b * e = divisor → c ≤ divisor ∧ (b ≠ 0 → e ≤ divisor) := fun a b c e ha hb hc he h => by
    have p1 := Int.mul_nonneg hb he
    have p2 : c ≤ a * c := by
      have := Int.mul_le_mul_of_nonneg_right (show 1 ≤ a by omega) hc
      omega
    refine ⟨by omega, fun hb0 => ?_⟩
    have p3 : e ≤ b * e := by
      have := Int.mul_le_mul_of_nonneg_right (show 1 ≤ b by omega) he
      omega
    have p4 := Int.mul_nonneg (Int.le_of_lt ha) hc
    omega
  rcases E.s with ⟨s1, s2, s3⟩ | ⟨s1, s2, s3⟩
  · have k := key left right following (-found) l r s2 (by omega) (by rw [Int.mul_neg]; omega)
    exact ⟨by omega, fun h => by have := k.2 h; omega⟩
  · have k := key left right (-following) found l r (by omega) s1 (by rw [Int.mul_neg]; omega)
    exact ⟨by omega, fun h => by have := k.2 h; omega⟩
theorem Euc.fin {number divisor left found following : Int} (E : Euc number divisor left 0 found following) (hg : Nat.gcd divisor.natAbs number.natAbs = 1) : divisor ∣ found * number - 1 := by
  have g := E.g
  rw [hg] at g
  have l := E.l
  have : left = 1 := by
    simp at g
    omega
  have c := E.c1
  rwa [this] at c
end NM

namespace NM
/-! stretches of a ring -/
/-- o is at most w behind b, on the ring of p -/
def inSt (p b w o : Int) : Bool := decide ((o - b) % p ≤ w)
/-- at least k of them are -/
def Valid (p : Int) (os : List Int) (k : Int) (w b : Int) : Prop := k ≤ (os.countP (inSt p b w) : Nat)
def lexLe (w b w' b' : Int) : Prop := w < w' ∨ (w = w' ∧ b ≤ b')
/-- the least width, and its least begin -/
def LeastSt (p : Int) (os : List Int) (k : Int) (w b : Int) : Prop := 0 ≤ w ∧ w < p ∧ 0 ≤ b ∧ b < p ∧ Valid p os k w b ∧ ∀ w' b', 0 ≤ w' → w' < p → 0 ≤ b' → b' < p → Valid p os k w' b' → lexLe w b w' b'
theorem LeastSt.uniq {p : Int} {os : List Int} {k w b w' b' : Int} (h : LeastSt p os k w b) (g : LeastSt p os k w' b') : w = w' ∧ b = b' := by
  obtain ⟨h1, h2, h3, h4, h5, h6⟩ := h
  obtain ⟨g1, g2, g3, g4, g5, g6⟩ := g
  have a := h6 _ _ g1 g2 g3 g4 g5
  have c := g6 _ _ h1 h2 h3 h4 h5
  unfold lexLe at a c
  omega
theorem least_none {p : Int} {os : List Int} {k : Int} (h0 : 0 < p) (hk : k ≤ 0) : LeastSt p os k 0 0 := by
  refine ⟨by omega, h0, by omega, h0, ?_, fun w' b' a _ c _ _ => ?_⟩
  · unfold Valid; omega
  · unfold lexLe; omega
/-- in an ascending list those that keep to what goes down come first -/
theorem asc_count {q : Int → Bool} (hq : ∀ x y, y ≤ x → q x = true → q y = true) : ∀ (l : List Int), l.Pairwise (· ≤ ·) → ∀ (j : Nat) (x : Int), l[j]? = some x → (q x = true ↔ j < l.countP q)
  | [], _, j, x, h => by simp at h
  | a :: r, hp, j, x, h => by
    rw [List.pairwise_cons] at hp
    by_cases ha : q a = true
    · rw [List.countP_cons, if_pos ha]
      cases j with
      | zero =>
        cases h
        exact ⟨fun _ => by omega, fun _ => ha⟩
      | succ i =>
        have ih := asc_count hq r hp.2 i x (by simpa using h)
        rw [ih]
        omega
    · have z : ∀ y ∈ a :: r, ¬ q y = true := fun y hy c => by
        rcases List.mem_cons.mp hy with e | e
        · exact ha (e ▸ c)
        · exact ha (hq y a (hp.1 y e) c)
      have m : x ∈ a :: r := List.mem_of_getElem? h
      rw [List.countP_eq_zero.mpr z]
      exact ⟨fun c => absurd c (z x m), fun c => by omega⟩
/-- each one again, a round farther -/
def dbl (p : Int) (rows : List Int) : List Int := rows ++ rows.map (· + p)
theorem dbl_lo {p : Int} {rows : List Int} {i : Nat} {x : Int} (h : rows[i]? = some x) : (dbl p rows)[i]? = some x := by
  have := (List.getElem?_eq_some_iff.mp h).1
  unfold dbl
  rw [List.getElem?_append_left this, h]
theorem dbl_hi {p : Int} {rows : List Int} {i : Nat} {x : Int} (h : rows[i]? = some x) : (dbl p rows)[rows.length + i]? = some (x + p) := by
  unfold dbl
  rw [List.getElem?_append_right (by omega), Nat.add_sub_cancel_left, List.getElem?_map, h]
  rfl
theorem dbl_asc {p : Int} {rows : List Int} (hs : rows.Pairwise (· ≤ ·)) (hr : ∀ o ∈ rows, 0 ≤ o ∧ o < p) : (dbl p rows).Pairwise (· ≤ ·) := by
  unfold dbl
  rw [List.pairwise_append]
  refine ⟨hs, ?_, fun a ha b hb => ?_⟩
  · rw [List.pairwise_map]
    exact hs.imp fun h => by omega
  · obtain ⟨c, hc, rfl⟩ := List.mem_map.mp hb
    have := hr a ha
    have := hr c hc
    omega
theorem in_win {p b w o : Int} (h0 : 0 ≤ b) (h1 : b < p) (w0 : 0 ≤ w) (w1 : w < p) (o0 : 0 ≤ o) (o1 : o < p) : inSt p b w o = true ↔ (b ≤ o ∧ o ≤ b + w) ∨ (b ≤ o + p ∧ o + p ≤ b + w) := by
  unfold inSt
  rw [decide_eq_true_iff]
  by_cases c : b ≤ o
  · rw [Int.emod_eq_of_lt (by omega) (by omega)]; omega
  · rw [← Int.add_emod_right, Int.emod_eq_of_lt (by omega) (by omega)]; omega
theorem count_or {α : Type} {f g h : α → Bool} : ∀ (l : List α), (∀ x ∈ l, (f x = true ↔ g x = true ∨ h x = true) ∧ ¬ (g x = true ∧ h x = true)) → l.countP f = l.countP g + l.countP h
  | [], _ => rfl
  | a :: r, z => by
    have i := count_or r fun x hx => z x (List.mem_cons_of_mem _ hx)
    obtain ⟨z1, z2⟩ := z a List.mem_cons_self
    rw [List.countP_cons, List.countP_cons, List.countP_cons, i]
    by_cases u : g a = true <;> by_cases v : h a = true
    · exact absurd ⟨u, v⟩ z2
    · rw [if_pos u, if_neg v, if_pos (z1.mpr (.inl u))]; omega
    · rw [if_neg u, if_pos v, if_pos (z1.mpr (.inr v))]; omega
    · rw [if_neg u, if_neg v, if_neg fun c => by rcases z1.mp c with c | c; exact u c; exact v c]; omega
theorem count_win {p b w : Int} {rows : List Int} (h0 : 0 ≤ b) (h1 : b < p) (w0 : 0 ≤ w) (w1 : w < p) (hr : ∀ o ∈ rows, 0 ≤ o ∧ o < p) :
    (dbl p rows).countP (fun x => decide (x < b)) + rows.countP (inSt p b w) = (dbl p rows).countP (fun x => decide (x ≤ b + w)) := by
  have e1 : rows.countP (inSt p b w) = (dbl p rows).countP fun x => decide (b ≤ x ∧ x ≤ b + w) := by
    unfold dbl
    rw [List.countP_append, List.countP_map]
    refine count_or rows fun o ho => ?_
    have := hr o ho
    rw [in_win h0 h1 w0 w1 this.1 this.2]
    simp only [Function.comp_apply, decide_eq_true_iff]
    exact ⟨trivial, by omega⟩
  rw [e1]
  symm
  refine count_or _ fun x _ => ?_
  simp only [decide_eq_true_iff]
  omega
/-- of each stretch that holds k there is a pair of rows that is no worse -/
theorem pair_of_valid {p : Int} {rows : List Int} {k : Nat} {w b : Int} (hs : rows.Pairwise (· ≤ ·)) (hr : ∀ o ∈ rows, 0 ≤ o ∧ o < p) (k0 : 0 < k) (kn : k ≤ rows.length) (w0 : 0 ≤ w) (w1 : w < p) (b0 : 0 ≤ b) (b1 : b < p)
    (hv : Valid p rows k w b) : ∃ (i : Nat) (x y : Int), i < rows.length ∧ rows[i]? = some x ∧ (dbl p rows)[i + k - 1]? = some y ∧ lexLe (y - x) x w b := by
  have cw := count_win b0 b1 w0 w1 hr
  have hd := dbl_asc hs hr
  have c1 := asc_count (q := fun x => decide (x < b)) (fun x y l h => by rw [decide_eq_true_iff] at h ⊢; omega) _ hd
  have c2 := asc_count (q := fun x => decide (x ≤ b + w)) (fun x y l h => by rw [decide_eq_true_iff] at h ⊢; omega) _ hd
  simp only [decide_eq_true_iff] at c1 c2
  unfold Valid at hv
  have lim : (dbl p rows).countP (fun x => decide (x ≤ b + w)) ≤ (dbl p rows).length := List.countP_le_length
  have len : (dbl p rows).length = rows.length + rows.length := by unfold dbl; rw [List.length_append, List.length_map]
  have sn : (dbl p rows).countP (fun x => decide (x < b)) ≤ rows.length := by
    unfold dbl
    rw [List.countP_append]
    have z : (rows.map (· + p)).countP (fun x => decide (x < b)) = 0 := List.countP_eq_zero.mpr fun y hy c => by
      obtain ⟨o, ho, rfl⟩ := List.mem_map.mp hy
      have := hr o ho
      rw [decide_eq_true_iff] at c
      omega
    rw [z]
    exact List.countP_le_length
  generalize (dbl p rows).countP (fun x => decide (x < b)) = s at cw c1 sn
  generalize (dbl p rows).countP (fun x => decide (x ≤ b + w)) = t at cw c2 lim
  have st : s + k ≤ t := by omega
  obtain ⟨y, hy⟩ : ∃ y, (dbl p rows)[s + k - 1]? = some y := ⟨_, List.getElem?_eq_getElem (by omega)⟩
  have y1 := (c2 _ _ hy).mpr (by omega)
  by_cases c : s < rows.length
  · obtain ⟨x, hx⟩ : ∃ x, rows[s]? = some x := ⟨_, List.getElem?_eq_getElem c⟩
    have x1 : ¬ x < b := fun z => by have := (c1 _ _ (dbl_lo hx)).mp z; omega
    refine ⟨s, x, y, c, hx, hy, ?_⟩
    unfold lexLe
    omega
  · have e : s = rows.length := by omega
    obtain ⟨x, hx⟩ : ∃ x, rows[0]? = some x := ⟨_, List.getElem?_eq_getElem (by omega)⟩
    obtain ⟨z, hz⟩ : ∃ z, rows[k - 1]? = some z := ⟨_, List.getElem?_eq_getElem (by omega)⟩
    have hz2 := dbl_hi (p := p) hz
    rw [show rows.length + (k - 1) = s + k - 1 by omega, hy] at hz2
    have ez : y = z + p := Option.some.inj hz2
    have x0 := hr x (List.mem_of_getElem? hx)
    refine ⟨0, x, z, by omega, hx, ?_, ?_⟩
    · rw [Nat.zero_add]; exact dbl_lo hz
    · unfold lexLe
      omega
theorem asc_le {l : List Int} (hs : l.Pairwise (· ≤ ·)) {i j : Nat} {x y : Int} (h : i ≤ j) (hx : l[i]? = some x) (hy : l[j]? = some y) : x ≤ y := by
  obtain ⟨hi, rfl⟩ := List.getElem?_eq_some_iff.mp hx
  obtain ⟨hj, rfl⟩ := List.getElem?_eq_some_iff.mp hy
  rcases Nat.lt_or_eq_of_le h with c | c
  · exact List.pairwise_iff_getElem.mp hs i j hi hj c
  · subst c; exact Int.le_refl _
/-- each pair of rows that is less than a round holds k -/
theorem valid_of_pair {p : Int} {rows : List Int} {k : Nat} {i : Nat} {x y : Int} (hs : rows.Pairwise (· ≤ ·)) (hr : ∀ o ∈ rows, 0 ≤ o ∧ o < p) (k0 : 0 < k) (hx : rows[i]? = some x) (hy : (dbl p rows)[i + k - 1]? = some y) (hw : y - x < p) : 0 ≤ y - x ∧ Valid p rows k (y - x) x := by
  have x0 := hr x (List.mem_of_getElem? hx)
  have hd := dbl_asc hs hr
  have w0 : 0 ≤ y - x := by have := asc_le hd (show i ≤ i + k - 1 by omega) (dbl_lo hx) hy; omega
  refine ⟨w0, ?_⟩
  have cw := count_win x0.1 x0.2 w0 hw hr
  have c1 := asc_count (q := fun z => decide (z < x)) (fun x y l h => by rw [decide_eq_true_iff] at h ⊢; omega) _ hd _ _ (dbl_lo hx)
  have c2 := asc_count (q := fun z => decide (z ≤ x + (y - x))) (fun x y l h => by rw [decide_eq_true_iff] at h ⊢; omega) _ hd _ _ hy
  simp only [decide_eq_true_iff] at c1 c2
  unfold Valid
  omega
/-- the least of the pairs -/
def MinPair (p : Int) (rows : List Int) (k : Nat) (w b : Int) : Prop := (∃ (i : Nat) (x y : Int), i < rows.length ∧ rows[i]? = some x ∧ (dbl p rows)[i + k - 1]? = some y ∧ w = y - x ∧ b = x) ∧
  ∀ (i : Nat) (x y : Int), i < rows.length → rows[i]? = some x → (dbl p rows)[i + k - 1]? = some y → lexLe w b (y - x) x
theorem least_of_pairs {p : Int} {rows os : List Int} {k : Nat} {w b : Int} (hp : rows.Perm os) (hs : rows.Pairwise (· ≤ ·)) (hr : ∀ o ∈ os, 0 ≤ o ∧ o < p) (k0 : 0 < k) (kn : k ≤ os.length) (h : MinPair p rows k w b) : LeastSt p os k w b := by
  have hr' : ∀ o ∈ rows, 0 ≤ o ∧ o < p := fun o ho => hr o (hp.mem_iff.mp ho)
  have kn' : k ≤ rows.length := by rw [hp.length_eq]; exact kn
  have pv : ∀ w b, Valid p os k w b ↔ Valid p rows k w b := fun w b => by unfold Valid; rw [hp.countP_eq]
  obtain ⟨⟨i, x, y, hi, hx, hy, rfl, rfl⟩, hmin⟩ := h
  have x0 := hr' b (List.mem_of_getElem? hx)
  -- the first pair is less than a round
  have wp : y - b < p := by
    obtain ⟨x', hx'⟩ : ∃ x, rows[0]? = some x := ⟨_, List.getElem?_eq_getElem (by omega)⟩
    obtain ⟨z, hz⟩ : ∃ z, rows[k - 1]? = some z := ⟨_, List.getElem?_eq_getElem (by omega)⟩
    have m := hmin 0 x' z (by omega) hx' (by rw [Nat.zero_add]; exact dbl_lo hz)
    have := hr' x' (List.mem_of_getElem? hx')
    have := hr' z (List.mem_of_getElem? hz)
    unfold lexLe at m
    omega
  obtain ⟨w0, v⟩ := valid_of_pair hs hr' k0 hx hy wp
  refine ⟨w0, wp, x0.1, x0.2, (pv _ _).mpr v, fun w' b' a1 a2 a3 a4 a5 => ?_⟩
  obtain ⟨j, x', y', hj, hx', hy', l⟩ := pair_of_valid hs hr' k0 kn' a1 a2 a3 a4 ((pv _ _).mp a5)
  have m := hmin j x' y' hj hx' hy'
  unfold lexLe at m l ⊢
  omega
end NM
namespace NM
theorem scale_in {p b w o m : Int} (hm : 0 < m) : inSt (p * m) (b * m) (w * m) (o * m) = inSt p b w o := by
  unfold inSt
  rw [← Int.sub_mul, Int.mul_comm _ m, Int.mul_comm p m, Int.mul_emod_mul_of_pos _ _ hm, Int.mul_comm w m, decide_eq_decide]
  exact ⟨fun z => Int.le_of_mul_le_mul_left z hm, fun z => Int.mul_le_mul_of_nonneg_left z (Int.le_of_lt hm)⟩
theorem dbl_scale {p m : Int} {rows : List Int} : dbl (p * m) (rows.map (· * m)) = (dbl p rows).map (· * m) := by
  unfold dbl
  rw [List.map_append, List.map_map, List.map_map]
  congr 1
  refine List.map_congr_left fun x _ => ?_
  show x * m + p * m = (x + p) * m
  rw [Int.add_mul]
theorem MinPair.scale {p m : Int} {rows : List Int} {k : Nat} {w b : Int} (hm : 0 < m) (h : MinPair p rows k w b) : MinPair (p * m) (rows.map (· * m)) k (w * m) (b * m) := by
  obtain ⟨⟨i, x, y, hi, hx, hy, rfl, rfl⟩, hmin⟩ := h
  refine ⟨⟨i, b * m, y * m, by rw [List.length_map]; exact hi, by rw [List.getElem?_map, hx]; rfl, by rw [dbl_scale, List.getElem?_map, hy]; rfl, by rw [Int.sub_mul], rfl⟩, fun j x' y' hj hx' hy' => ?_⟩
  rw [List.length_map] at hj
  rw [List.getElem?_map] at hx'
  rw [dbl_scale, List.getElem?_map] at hy'
  obtain ⟨u, hu, rfl⟩ := Option.map_eq_some_iff.mp hx'
  obtain ⟨v, hv, rfl⟩ := Option.map_eq_some_iff.mp hy'
  have l := hmin j u v hj hu hv
  unfold lexLe at l ⊢
  rw [← Int.sub_mul]
  rcases l with l | ⟨l1, l2⟩
  · exact .inl (Int.mul_lt_mul_of_pos_right l hm)
  · exact .inr ⟨by rw [l1], Int.mul_le_mul_of_nonneg_right l2 (Int.le_of_lt hm)⟩
/-- what narrowest tells: its width and its begin -/
def Narrow (p : Int) (os : List Int) (k w b : Int) : Prop := (k ≤ 0 ∧ w = 0 ∧ b = 0) ∨ (0 < k ∧ ∃ rows : List Int, rows.Perm os ∧ rows.Pairwise (· ≤ ·) ∧ MinPair p rows k.toNat w b)
theorem Narrow.scale {p m : Int} {os : List Int} {k w b : Int} (hm : 0 < m) (h : Narrow p os k w b) : Narrow (p * m) (os.map (· * m)) k (w * m) (b * m) := by
  rcases h with ⟨a, rfl, rfl⟩ | ⟨k0, rows, hp, hs, hmin⟩
  · exact .inl ⟨a, by rw [Int.zero_mul], by rw [Int.zero_mul]⟩
  · refine .inr ⟨k0, rows.map (· * m), hp.map _, ?_, hmin.scale hm⟩
    rw [List.pairwise_map]
    exact hs.imp fun h => Int.mul_le_mul_of_nonneg_right h (Int.le_of_lt hm)
theorem Narrow.least {p : Int} {os : List Int} {k w b : Int} (h0 : 0 < p) (hr : ∀ o ∈ os, 0 ≤ o ∧ o < p) (kn : k ≤ (os.length : Nat)) (h : Narrow p os k w b) : LeastSt p os k w b := by
  rcases h with ⟨a, rfl, rfl⟩ | ⟨k0, rows, hp, hs, hmin⟩
  · exact least_none h0 a
  · have e : ((k.toNat : Nat) : Int) = k := Int.toNat_of_nonneg (by omega)
    have l := least_of_pairs hp hs hr (by omega) (by omega) hmin
    rw [e] at l
    exact l
theorem range_scaled {p m : Int} {os : List Int} (hm : 0 < m) (hr : ∀ o ∈ os, 0 ≤ o ∧ o < p) : ∀ o ∈ os.map (· * m), 0 ≤ o ∧ o < p * m := fun o ho => by
  obtain ⟨x, hx, rfl⟩ := List.mem_map.mp ho
  have := hr x hx
  exact ⟨Int.mul_nonneg this.1 (Int.le_of_lt hm), Int.mul_lt_mul_of_pos_right this.2 hm⟩
/-- the places of those that are left out -/
def leftSt (p b w : Int) (os : List Int) : List Nat := (List.range os.length).filter fun i => !inSt p b w (os.getD i 0)
theorem left_scale {p b w m : Int} {os : List Int} (hm : 0 < m) : leftSt (p * m) (b * m) (w * m) (os.map (· * m)) = leftSt p b w os := by
  unfold leftSt
  rw [List.length_map]
  refine List.filter_congr fun i hi => ?_
  rw [List.mem_range] at hi
  have e : (os.map (· * m)).getD i 0 = os.getD i 0 * m := by
    rw [List.getD_eq_getElem?_getD, List.getD_eq_getElem?_getD, List.getElem?_map, List.getElem?_eq_getElem hi]
    rfl
  rw [e, scale_in hm]
theorem range_getD (os : List Int) : (List.range os.length).map (fun i => os.getD i 0) = os := by
  refine List.ext_getElem? fun i => ?_
  rw [List.getElem?_map]
  by_cases h : i < os.length
  · rw [List.getElem?_range h, List.getElem?_eq_getElem h]
    show some (os.getD i 0) = _
    rw [List.getD_eq_getElem?_getD, List.getElem?_eq_getElem h]
    rfl
  · rw [List.getElem?_eq_none (by rw [List.length_range]; omega), List.getElem?_eq_none (by omega)]
    rfl
theorem left_count {p b w : Int} (os : List Int) : (leftSt p b w os).length + os.countP (inSt p b w) = os.length := by
  have e : os.countP (inSt p b w) = (List.range os.length).countP fun i => inSt p b w (os.getD i 0) := by
    conv => lhs; rw [← range_getD os]
    rw [List.countP_map]
    rfl
  rw [e]
  unfold leftSt
  rw [← List.countP_eq_length_filter]
  have := List.length_eq_countP_add_countP (fun i => inSt p b w (os.getD i 0)) (l := List.range os.length)
  rw [List.length_range] at this
  have e2 : (List.range os.length).countP (fun i => !inSt p b w (os.getD i 0)) = (List.range os.length).countP (fun i => decide ¬inSt p b w (os.getD i 0) = true) := by
    refine List.countP_congr fun i _ => ?_
    cases inSt p b w (os.getD i 0) <;> simp
  omega
end NM

namespace NM
/-- the least stretch, looked up by trying all -/
def chkSt (p : Nat) (os : List Int) (k w b : Int) : Bool := decide (0 ≤ w ∧ w < p ∧ 0 ≤ b ∧ b < p ∧ k ≤ (os.countP (inSt p b w) : Nat)) &&
  (List.range p).all fun w' => (List.range p).all fun b' => !decide (k ≤ (os.countP (inSt p (b' : Nat) (w' : Nat)) : Nat)) || decide (w < (w' : Nat) ∨ (w = (w' : Nat) ∧ b ≤ (b' : Nat)))
theorem chk_least {p : Nat} {os : List Int} {k w b : Int} (h : chkSt p os k w b = true) : LeastSt p os k w b := by
  unfold chkSt at h
  rw [Bool.and_eq_true, decide_eq_true_iff] at h
  obtain ⟨⟨a1, a2, a3, a4, a5⟩, h⟩ := h
  refine ⟨a1, a2, a3, a4, a5, fun w' b' w0 w1 b0 b1 v => ?_⟩
  obtain ⟨wn, rfl⟩ : ∃ n : Nat, w' = (n : Int) := ⟨w'.toNat, by omega⟩
  obtain ⟨bn, rfl⟩ : ∃ n : Nat, b' = (n : Int) := ⟨b'.toNat, by omega⟩
  have h1 := List.all_eq_true.mp h wn (List.mem_range.mpr (by omega))
  have h2 := List.all_eq_true.mp h1 bn (List.mem_range.mpr (by omega))
  rw [Bool.or_eq_true, decide_eq_true_iff] at h2
  rcases h2 with h2 | h2
  · rw [decide_eq_true (show k ≤ (os.countP (inSt p (bn : Nat) (wn : Nat)) : Nat) from v)] at h2
    cases h2
  · exact h2
end NM
namespace NM
def farOs : List Int := List.replicate 30 999999999999 ++ List.replicate 30 0
theorem far_least : LeastSt 1000000000000 farOs ((farOs.length : Nat) - 0) 1 999999999999 := by
  refine ⟨by decide, by decide, by decide, by decide, by unfold Valid; decide +kernel, fun w' b' w0 w1 b0 b1 v => ?_⟩
  have l : farOs.length = 60 := by decide +kernel
  unfold Valid at v
  have all : farOs.countP (inSt 1000000000000 b' w') = farOs.length := by
    have := List.countP_le_length (p := inSt 1000000000000 b' w') (l := farOs)
    omega
  rw [List.countP_eq_length] at all
  have h1 := of_decide_eq_true (all 999999999999 (by decide +kernel))
  have h2 := of_decide_eq_true (all 0 (by decide +kernel))
  unfold lexLe
  omega
theorem far_left : leftSt 1000000000000 999999999999 1 farOs = [] := by decide +kernel
theorem far_in : ∀ o ∈ farOs, 0 ≤ o ∧ o < 1000000000000 := by decide +kernel
end NM

namespace NM
/-! plays: the least stretch by begins at offsets alone -/
theorem lexLe.anti {a b c d : Int} (h : lexLe a b c d) (g : lexLe c d a b) : a = c ∧ b = d := by
  unfold lexLe at h g
  omega
/-- the far end of the nearest k behind c, by a row in order -/
theorem far_row {p c f : Int} {os row : List Int} {k : Nat} (h0 : 0 < p) (hp : row.Perm (os.map fun o => (o - c) % p)) (hs : row.Pairwise (· ≤ ·)) (k0 : 0 < k) (hf : row[k - 1]? = some f) :
    0 ≤ f ∧ f < p ∧ Valid p os (k : Nat) f c ∧ ∀ w, Valid p os (k : Nat) w c → f ≤ w := by
  have cnt : ∀ w : Int, os.countP (inSt p c w) = row.countP fun x => decide (x ≤ w) := fun w => by
    rw [hp.countP_eq, List.countP_map]
    rfl
  have at1 : ∀ w : Int, f ≤ w ↔ k - 1 < row.countP fun x => decide (x ≤ w) := fun w => by
    have := asc_count (q := fun x => decide (x ≤ w)) (fun x y h1 h2 => decide_eq_true (Int.le_trans h1 (of_decide_eq_true h2))) row hs (k - 1) f hf
    rw [← this, decide_eq_true_iff]
  have mem := hp.mem_iff.mp (List.mem_of_getElem? hf)
  obtain ⟨o, _, rfl⟩ := List.mem_map.mp mem
  refine ⟨Int.emod_nonneg _ (by omega), Int.emod_lt_of_pos _ h0, ?_, fun w h => ?_⟩
  · have := (at1 _).mp (Int.le_refl _)
    unfold Valid
    rw [cnt]
    omega
  · unfold Valid at h
    rw [cnt] at h
    exact (at1 w).mpr (by omega)
theorem Narrow.mem {p : Int} {os : List Int} {k w b : Int} (k0 : 0 < k) (h : Narrow p os k w b) : b ∈ os := by
  rcases h with ⟨a, _, _⟩ | ⟨_, rows, hp, _, ⟨i, x, y, _, hx, _, _, rfl⟩, _⟩
  · omega
  · exact hp.mem_iff.mp (List.mem_of_getElem? hx)
theorem least_law {p : Int} {os : List Int} {k w b w' b' : Int} {far : Int → Int} (h0 : 0 < p) (hr : ∀ o ∈ os, 0 ≤ o ∧ o < p) (kn : k ≤ (os.length : Nat)) (k0 : 0 < k)
    (hfar : ∀ c ∈ os, 0 ≤ far c ∧ far c < p ∧ Valid p os k (far c) c ∧ ∀ w, Valid p os k w c → far c ≤ w) (hb : b' ∈ os) (hw : w' = far b') (hmin : ∀ c ∈ os, lexLe w' b' (far c) c) (h : Narrow p os k w b) : w' = w ∧ b' = b := by
  have mb := h.mem k0
  obtain ⟨l1, l2, l3, l4, l5, l6⟩ := h.least h0 hr kn
  obtain ⟨f1, f2, f3, _⟩ := hfar b' hb
  have a := l6 _ _ f1 f2 (hr b' hb).1 (hr b' hb).2 f3
  have c := hmin b mb
  have d := (hfar b mb).2.2.2 w l5
  unfold lexLe at a c
  omega
end NM

namespace My
open PySem PySem.Spec PyProof.Rows L2 StX
def top (i : Nat) : Stmt := PySem.Challenge.pw_wheelreach_k87_plays_told_back_from_logs.main.body.getD i (.Pass ⟨0, 0, 0, 0⟩)
abbrev s_is_whole : Stmt := top 6
abbrev s_is_from : Stmt := top 7
abbrev s_is_between : Stmt := top 8
abbrev s_need_from : Stmt := top 10
abbrev s_is_period : Stmt := top 19
abbrev s_need_items : Stmt := top 20
abbrev s_narrowest : Stmt := top 21
abbrev s_stretch_of : Stmt := top 22
abbrev s_is_pair : Stmt := top 23
abbrev s_is_entry : Stmt := top 24
abbrev s_need_entries : Stmt := top 25
abbrev s_offsets_at : Stmt := top 26
abbrev s_are_periods : Stmt := top 27
abbrev s_plays : Stmt := top 28
abbrev s_pen : Stmt := top 30
abbrev s_draw : Stmt := top 31
abbrev s_pick : Stmt := top 32
abbrev s_wheels : Stmt := top 33
abbrev s_entries : Stmt := top 34
abbrev s_least : Stmt := top 35
abbrev s_due : Stmt := top 36
abbrev s_right : Stmt := top 37
abbrev s_law : Stmt := top 38
abbrev s_Stretch_init : Stmt := inClass (top 18) 0
abbrev s_Stretch_eq : Stmt := inClass (top 18) 1
theorem sc_is_whole : FnScope ["value"] ["value"] (defScope s_is_whole) := ⟨rfl, rfl, rfl, by decide +kernel, rfl, by decide +kernel, by decide +kernel⟩
theorem sc_is_from : FnScope ["value", "low"] ["value", "low"] (defScope s_is_from) := ⟨rfl, rfl, rfl, by decide +kernel, rfl, by decide +kernel, by decide +kernel⟩
theorem sc_is_between : FnScope ["value", "low", "high"] ["value", "low", "high"] (defScope s_is_between) := ⟨rfl, rfl, rfl, by decide +kernel, rfl, by decide +kernel, by decide +kernel⟩
theorem sc_need_from : FnScope ["value", "low"] ["value", "low"] (defScope s_need_from) := ⟨rfl, rfl, rfl, by decide +kernel, rfl, by decide +kernel, by decide +kernel⟩
theorem sc_is_period : FnScope ["value"] ["value"] (defScope s_is_period) := ⟨rfl, rfl, rfl, by decide +kernel, rfl, by decide +kernel, by decide +kernel⟩
theorem sc_need_items : FnScope ["value"] ["value"] (defScope s_need_items) := ⟨rfl, rfl, rfl, by decide +kernel, rfl, by decide +kernel, by decide +kernel⟩
theorem sc_narrowest : FnScope ["period", "offsets", "skip", "needed", "rows", "offset", "width", "begin", "at"] ["period", "offsets", "skip"] (defScope s_narrowest) := ⟨rfl, rfl, rfl, by decide +kernel, rfl, by decide +kernel, by decide +kernel⟩
theorem sc_stretch_of : FnScope ["period", "indexed", "skip", "begin", "width", "at", "offset"] ["period", "indexed", "skip"] (defScope s_stretch_of) := ⟨rfl, rfl, rfl, by decide +kernel, rfl, by decide +kernel, by decide +kernel⟩
theorem sc_is_pair : FnScope ["value"] ["value"] (defScope s_is_pair) := ⟨rfl, rfl, rfl, by decide +kernel, rfl, by decide +kernel, by decide +kernel⟩
theorem sc_is_entry : FnScope ["value", "periods", "mark", "period"] ["value", "periods"] (defScope s_is_entry) := ⟨rfl, rfl, rfl, by decide +kernel, rfl, by decide +kernel, by decide +kernel⟩
theorem sc_need_entries : FnScope ["entries", "periods", "at", "entry"] ["entries", "periods"] (defScope s_need_entries) := ⟨rfl, rfl, rfl, by decide +kernel, rfl, by decide +kernel, by decide +kernel⟩
theorem sc_offsets_at : FnScope ["entries", "place", "period", "rows", "at", "value", "marks"] ["entries", "place", "period"] (defScope s_offsets_at) := ⟨rfl, rfl, rfl, by decide +kernel, rfl, by decide +kernel, by decide +kernel⟩
theorem sc_are_periods : FnScope ["value", "period"] ["value"] (defScope s_are_periods) := ⟨rfl, rfl, rfl, by decide +kernel, rfl, by decide +kernel, by decide +kernel⟩
theorem sc_plays : FnScope ["periods", "entries", "skip", "place", "period"] ["periods", "entries", "skip"] (defScope s_plays) := ⟨rfl, rfl, rfl, by decide +kernel, rfl, by decide +kernel, by decide +kernel⟩
theorem sc_pen : FnScope ["_law_script"] ["_law_script"] (defScope s_pen) := ⟨rfl, rfl, rfl, by decide +kernel, rfl, by decide +kernel, by decide +kernel⟩
theorem sc_draw : FnScope ["_law_pen_here", "_law_many", "_law_digit", "_law_tick", "_law_cell", "_law_great", "_law_mixed"] ["_law_pen_here", "_law_many"] (defScope s_draw) := ⟨rfl, rfl, rfl, by decide +kernel, rfl, by decide +kernel, by decide +kernel⟩
theorem sc_pick : FnScope ["_law_pen_here", "_law_some"] ["_law_pen_here", "_law_some"] (defScope s_pick) := ⟨rfl, rfl, rfl, by decide +kernel, rfl, by decide +kernel, by decide +kernel⟩
theorem sc_wheels : FnScope ["_law_pen_here", "_law_most", "_law_found", "_law_turn", "_law_period", "_law_plain"] ["_law_pen_here", "_law_most"] (defScope s_wheels) := ⟨rfl, rfl, rfl, by decide +kernel, rfl, by decide +kernel, by decide +kernel⟩
theorem sc_entries : FnScope ["_law_pen_here", "_law_plains", "_law_most", "_law_found", "_law_turn", "_law_value", "_law_marks", "_law_plain", "_law_slip"] ["_law_pen_here", "_law_plains", "_law_most"] (defScope s_entries) := ⟨rfl, rfl, rfl, by decide +kernel, rfl, by decide +kernel, by decide +kernel⟩
theorem sc_least : FnScope ["_law_period", "_law_offsets", "_law_skip", "_law_many", "_law_found", "_law_begin", "_law_row", "_law_offset", "_law_width", "_law_far", "_law_least_here", "_law_at"] ["_law_period", "_law_offsets", "_law_skip"] (defScope s_least) := ⟨rfl, rfl, rfl, by decide +kernel, rfl, by decide +kernel, by decide +kernel⟩
theorem sc_due : FnScope ["_law_plain", "_law_entries_here", "_law_place", "_law_skip", "_law_heard", "_law_at", "_law_entry", "_law_offsets", "_law_begin", "_law_width", "_law_left"] ["_law_plain", "_law_entries_here", "_law_place", "_law_skip"] (defScope s_due) := ⟨rfl, rfl, rfl, by decide +kernel, rfl, by decide +kernel, by decide +kernel⟩
theorem sc_right : FnScope ["_law_pen_here", "_law_plains", "_law_skip", "_law_entries_here", "_law_held", "_law_periods", "_law_plain", "_law_told", "_law_one", "_law_place"] ["_law_pen_here"] (defScope s_right) := ⟨rfl, rfl, rfl, by decide +kernel, rfl, by decide +kernel, by decide +kernel⟩
theorem sc_law : FnScope ["_law_script", "_law_pen_here", "_law_turn", "_law_entries_here", "_law_told", "_law_one", "_law_skip", "_law_periods", "_law_eight", "_law_at", "_law_period", "_law_value"] ["_law_script"] (defScope s_law) := ⟨rfl, rfl, rfl, by decide +kernel, rfl, by decide +kernel, by decide +kernel⟩
theorem sc_Stretch_init : FnScope ["self", "begin", "width", "left"] ["self", "begin", "width", "left"] (defScope s_Stretch_init) := ⟨rfl, rfl, rfl, by decide +kernel, rfl, by decide +kernel, by decide +kernel⟩
theorem sc_Stretch_eq : FnScope ["self", "other"] ["self", "other"] (defScope s_Stretch_eq) := ⟨rfl, rfl, rfl, by decide +kernel, rfl, by decide +kernel, by decide +kernel⟩
section
variable {P : Program} {w : World} {K : PySem.W.Frag} {mg : Str → Option Value} {base : Heap}
/-! ### rules and words of our own -/
/-- x(e, ..), x a def whose promise is told of the arguments as they are passed -/
theorem pe_callR {X : Cx} {CX : CXT} {k : Nat} {f : Addr} {sp : Sp} {E : XK} {x : Str} {e : Expr} {es : List Expr} {t : TA} {p pos : Pos} (F : FnR X.prog X.w X.K X.mg X.base CX k f sp) (hr : Room k X.A) (hk : PySem.W.keepIn X.K (.ref f) = true) (hg : Gl X x) (hm : X.mg x = some (.ref f)) (hx : Passes CX X E)
    (ha : PA X (e :: es) t) (hd : (x == ("__debug__" : Str)) = false := by decide) (he : starEach (e :: es) X.env = (false, eval e X.env) :: starEach es X.env := by rfl) (hpl : (backTo pos (starEach es X.env)).any (·.1) = false := by rfl) :
    PE X (.Call (.Name x p) (e :: es) [] pos) (fun σ H Q => t σ H fun vs H1 => sp vs H1 Q E) := by
  refine ⟨fun pins s σ H Q I h => ?_⟩
  refine wpAny_Call_Name_kw (ld_glob I hg hm ?_ hd)
  refine PySem.W.callWith_K (h₀ := X.base) I.ok.mod.kin hk (thn (ha.run pos pins s σ H _ I h) fun us s1 ⟨vs, H1, I1, r, q⟩ => ⟨I1.kIn, ?_⟩) he hpl
  exact wpAny_call (run_fnR F hr hx I1 r q)
theorem pe_callR0 {X : Cx} {CX : CXT} {k : Nat} {f : Addr} {sp : Sp} {E : XK} {x : Str} {p pos : Pos} (F : FnR X.prog X.w X.K X.mg X.base CX k f sp) (hr : Room k X.A) (hk : PySem.W.keepIn X.K (.ref f) = true) (hg : Gl X x) (hm : X.mg x = some (.ref f)) (hx : Passes CX X E)
    (hd : (x == ("__debug__" : Str)) = false := by decide) : PE X (.Call (.Name x p) [] [] pos) (fun σ H Q => sp [] H Q E) := by
  refine ⟨fun pins s σ H Q I h => ?_⟩
  refine wpAny_Call_Name_kw (ld_glob I hg hm ?_ hd)
  exact PySem.W.callWith_K0 I.kIn hk (wpAny_call (run_fnR (us := []) F hr hx I .nil h))
/-- def f(*v) of the text -/
theorem star_ok {P : Program} {w : World} {K : PySem.W.Frag} {mg : Str → Option Value} {base : Heap} {k : Nat} {x qual pv : Str} {st : Stmt} {f : Addr} {fd : FuncData} {N : List Str} {sp : List V → Hp → VK → XK → Prop}
    (F : Fun K x qual st f fd) (S : FnScope N [pv] (defScope st))
    (hb : ∀ (kV doc pm : Value) (an : Option Addr) (cdv ct : Value) (rest : List Value), bindArgs (PySem.W.fnOf x qual (defArgs st) (defBody st) (defScope st) .none kV doc pm an cdv ct) ⟨rest, []⟩ = (newTuple rest >>= fun t => pure [(pv, t)]))
    (hbody : ∀ (cdv : Value) (A : Around) (outer : List Env) (s : Shared) (H : Hp) (vs : List V) (p : Addr) (H0 : Hp) (Q : VK) (E : XK), Room k (A.deeper (envOfC qual (defScope st) s.heap.objs.size f cdv)) → sp vs H0 Q E → vs.length ≤ sizeLine → H0 p = Option.none → H = upd H0 p (.tup vs) →
      ∃ t, PSs (cxOf CX0 P w K mg base N qual (defScope st) f cdv A outer s H E).nox (defBody st) t ∧ t { nx := fun _ H' => Q .non H', rt := Q } (start N [V.ref p]) H) :
    FnR P w K mg base CX0 (k + 1) f (fun vs H Q E => vs.length ≤ sizeLine ∧ sp vs H Q E) := by
  obtain ⟨oc, od, kV, doc, pm, an, cdv, ct, osl, rfl, lk, hcd⟩ := F.ex
  refine FnR.imp (fn_star (ps := []) (pv := pv) (CX := CX0) (sp := fun ws H Q E => ∃ (vs : List V) (p : Addr) (H0 : Hp), ws = [V.ref p] ∧ sp vs H0 Q E ∧ vs.length ≤ sizeLine ∧ H0 p = Option.none ∧ H = upd H0 p (.tup vs)) lk hcd S cxUp_none (fun us rest hl => ?_) fun A outer s H vs Q E hr h => ?_) fun vs H Q E h => ?_
  · have e : us = [] := List.length_eq_zero_iff.mp hl
    subst e
    show bindArgs _ ⟨rest, []⟩ = _
    rw [hb]
    rfl
  · obtain ⟨ws, p, H0, rfl, hs, hl, hp, rfl⟩ := h
    obtain ⟨t, ht, hq⟩ := hbody cdv A outer s _ ws p H0 Q E hr hs hl hp rfl
    exact ⟨t, ht.nox, hq⟩
  · exact ⟨[], vs, rfl, rfl, h.1, fun p hp => ⟨vs, p, H, rfl, h.2, h.1, hp, rfl⟩⟩
/-- all but p is as it was -/
structure Fr (p : Addr) (H H' : Hp) : Prop where
  keep : ∀ b o, b ≠ p → H b = some o → H' b = some o
  head : ∀ v xs, H p = some (.lst (v :: xs)) → ∃ ys, H' p = some (.lst (v :: ys))
instance {p : Addr} {H H' : Hp} : CoeFun (Fr p H H') fun _ => ∀ b o, b ≠ p → H b = some o → H' b = some o := ⟨Fr.keep⟩
theorem Fr.refl (p : Addr) (H : Hp) : Fr p H H := ⟨fun _ _ _ h => h, fun _ xs h => ⟨xs, h⟩⟩
theorem Fr.trans {p : Addr} {H H1 H2 : Hp} (a : Fr p H H1) (b : Fr p H1 H2) : Fr p H H2 := ⟨fun c o n h => b.keep c o n (a.keep c o n h), fun v xs h => by
  obtain ⟨ys, h1⟩ := a.head v xs h
  exact b.head v ys h1⟩
theorem same_fr {p : Addr} {H H' : Hp} (s : Same H H') : Fr p H H' := ⟨fun b o _ h => s b o h, fun _ xs h => ⟨xs, s _ _ h⟩⟩
theorem same_new {H : Hp} {p : Addr} {o : HO} (h : H p = Option.none) : Same H (upd H p o) := fun b u e => by
  rw [upd_ne (ne_of_none e h)]; exact e
theorem fr_upd {H : Hp} {p : Addr} {v : V} {xs ys : List V} (hp : H p = some (.lst (v :: xs))) : Fr p H (upd H p (.lst (v :: ys))) := ⟨fun b u n e => by rw [upd_ne n]; exact e, fun v' xs' e => by
  rw [hp] at e
  cases e
  exact ⟨ys, upd_same⟩⟩
theorem Fr.seq {K : PySem.W.Frag} {p a : Addr} {H H' : Hp} {xs : List V} (e : Fr p H H') (n : a ≠ p) (h : SqL K H a xs) : SqL K H' a xs := by
  rcases h with (h | ⟨o, h⟩) | h
  · exact .inl (.inl (e _ _ n h))
  · exact .inl (.inr ⟨o, e _ _ n h⟩)
  · exact .inr h
/-- the state of the draws: the cells, the index, what is left of a great one -/
def Pen (H : Hp) (p : Addr) (n : Nat) : Prop := ∃ (c : Addr) (ns : List Int) (i g : Int), H p = some (.lst [.ref c, .int i, .int g]) ∧ H c = some (.lst (ns.map V.int)) ∧ 0 ≤ i ∧ i ≤ (n : Int) ∧ 0 ≤ g ∧ ns.length ≤ 63
theorem Pen.same {H H' : Hp} {p : Addr} {n : Nat} (h : Pen H p n) (s : Same H H') : Pen H' p n := by
  obtain ⟨c, ns, i, g, h1, h2, h3⟩ := h
  exact ⟨c, ns, i, g, s _ _ h1, s _ _ h2, h3⟩
theorem Pen.mono {H : Hp} {p : Addr} {n m : Nat} (h : Pen H p n) (l : n ≤ m) : Pen H p m := by
  obtain ⟨c, ns, i, g, h1, h2, h3, h4, h5⟩ := h
  exact ⟨c, ns, i, g, h1, h2, h3, by omega, h5⟩
theorem pen_ne {H : Hp} {p c : Addr} {x y : V} {a : Addr} {ns : List Int} (h1 : H p = some (.lst [.ref a, x, y])) (h2 : H c = some (.lst (ns.map V.int))) : c ≠ p := fun e => by
  rw [e, h1] at h2
  cases ns with
  | nil => cases h2
  | cons z r => injection h2 with h2; injection h2 with h2; injection h2 with h2; cases h2
theorem Pen.at {H : Hp} {p : Addr} {n : Nat} (h : Pen H p n) : ∃ xs, H p = some (.lst xs) := by
  obtain ⟨c, ns, i, g, h1, _⟩ := h
  exact ⟨_, h1⟩
theorem Pen.neq {H : Hp} {p a : Addr} {n : Nat} (h : Pen H p n) (e : H a = Option.none) : a ≠ p := fun z => by
  obtain ⟨xs, h⟩ := h.at
  rw [z, h] at e; cases e
theorem if_true_of {c : Bool} {A B : Prop} (hc : c = true) (h : A) : if c = true then A else B := by
  rw [if_pos hc]; exact h
theorem if_false_of {c : Bool} {A B : Prop} (hc : c = false) (h : B) : if c = true then A else B := by
  rw [hc, if_neg Bool.false_ne_true]; exact h
theorem atI_in {ns : List Int} {j : Int} (h0 : 0 ≤ j) (h1 : j < (ns.length : Int)) : ∃ z, atI (ns.map V.int) j = some (V.int z) := by
  have h : j.toNat < ns.length := by omega
  exact ⟨ns[j.toNat], at_of (j := j.toNat) (by omega) (by rw [List.getElem?_map]; simp [h])⟩
theorem atI_any {xs : List V} {j : Int} (h0 : 0 ≤ j) (h1 : j < (xs.length : Int)) : ∃ z, z ∈ xs ∧ atI xs j = some z := by
  have h : j.toNat < xs.length := by omega
  exact ⟨xs[j.toNat], List.getElem_mem h, at_of (j := j.toNat) (by omega) (by simp [h])⟩
theorem cut_ints (ns : List Int) (lo hi : Option Int) : ∃ ms : List Int, cutV (ns.map V.int) lo hi = ms.map V.int ∧ ms.length ≤ ns.length := by
  refine ⟨(ns.drop (HT.sIx (ns.map V.int).length 0 lo)).take (HT.sIx (ns.map V.int).length (ns.map V.int).length hi - HT.sIx (ns.map V.int).length 0 lo), ?_, ?_⟩
  · unfold cutV
    rw [List.map_take, List.map_drop]
  · rw [List.length_take, List.length_drop]
    omega
theorem stir1 {r b d e : Int} (h0 : 0 ≤ r) (h1 : r < 2147483648) (b0 : 0 ≤ b) (b1 : b ≤ 100000) (d0 : 0 ≤ d) (d1 : d ≤ 100000) (e0 : 0 ≤ e) (e1 : e ≤ 100000) : (r + d * b + e).natAbs < 2 ^ 64 := by
  have h2 := Int.mul_nonneg d0 b0
  have h3 : d * b ≤ d * 100000 := Int.mul_le_mul_of_nonneg_left b1 d0
  omega
theorem stir2 {s b c d e : Int} (h0 : 0 ≤ s) (h1 : s < 2147483648) (b0 : 0 ≤ b) (b1 : b ≤ 100000) (c0 : 0 ≤ c) (c1 : c ≤ 100000) (d0 : 0 ≤ d) (d1 : d ≤ 100000) (e0 : 0 ≤ e) (e1 : e ≤ 100000) : (s * (2 * b + c) + d * b * b + e).natAbs < 2 ^ 64 := by
  have h2 := Int.mul_nonneg h0 (show 0 ≤ 2 * b + c by omega)
  have h3 : s * (2 * b + c) ≤ 2147483648 * (2 * b + c) := Int.mul_le_mul_of_nonneg_right (by omega) (by omega)
  have h4 := Int.mul_nonneg d0 b0
  have h5 := Int.mul_nonneg h4 b0
  have h6 : d * b ≤ d * 100000 := Int.mul_le_mul_of_nonneg_left b1 d0
  have h7 : d * b * b ≤ d * b * 100000 := Int.mul_le_mul_of_nonneg_left b1 h4
  omega
theorem small64 {i : Int} (h0 : 0 ≤ i) (h1 : i < 2147483648) : -(2 ^ 64) < i ∧ i < 2 ^ 64 := by omega
theorem fmod_pos {x m : Int} (hm : 0 < m) : 0 ≤ x.fmod m ∧ x.fmod m < m := by
  rw [Int.fmod_eq_emod_of_nonneg x (by omega)]
  exact ⟨Int.emod_nonneg _ (by omega), Int.emod_lt_of_pos _ hm⟩
theorem dp_ints {K : PySem.W.Frag} {H : Hp} : ∀ ns : List Int, DpAll K H (ns.map V.int) (ns.map PyData.int)
  | [] => .nil
  | z :: r => .cons (.int z) (dp_ints r)
theorem eqvAll_ints : ∀ ns : List Int, PyData.eqvAll (ns.map PyData.int) (ns.map PyData.int) = true
  | [] => by simp [PyData.eqvAll]
  | z :: r => by simp [PyData.eqvAll, PyData.eqv, eqvAll_ints r]
theorem eqv_ints (ns : List Int) : PyData.eqv (.list (ns.map PyData.int)) (.list (ns.map PyData.int)) = true := by
  rw [PyData.eqv]; exact eqvAll_ints ns

/-- the target a, b within a comprehension: told of the written part and of the number of names -/
theorem pg_tup2 {X : Cx} {es : List Expr} {k : Nat} {t : TGs} {pos : Pos} (K : PySem.W.Frag) (n : Nat) (hK : X.K = K) (hc : X.calm = true) (h : PGs X es t) (hn : (assignEach es X.env).length = n := by rfl) (hst : (assignEach es X.env).findIdx? (·.1) = none := by rfl) : PG X (.Tuple es k pos) (gTup K n t) := by
  subst hK
  exact pg_tup hc h hn hst
theorem ix_tup2 {X : Cx} (K : PySem.W.Frag) (hK : X.K = K) : IxR X (rIxT K) := by
  subst hK
  exact ix_tup
theorem ix_list2 {X : Cx} (K : PySem.W.Frag) (hK : X.K = K) : IxR X (rIxL K) := by
  subst hK
  exact ix_list
theorem op_eqD2 {X : Cx} (K : PySem.W.Frag) (hK : X.K = K) (hu : X.A.units + 64 < cLine) : OpR X (compareOp .Eq) (rEqD K) := by
  subst hK
  exact op_eqD hu
theorem sl_list2 {X : Cx} (K : PySem.W.Frag) (hK : X.K = K) : SlR X (rSlL K) := by
  subst hK
  exact sl_list
theorem op_in_seq2 {X : Cx} (K : PySem.W.Frag) (hK : X.K = K) : OpR X (compareOp .In) (rIn K false) := by
  subst hK
  exact op_in_seq
theorem op_notIn_seq2 {X : Cx} (K : PySem.W.Frag) (hK : X.K = K) : OpR X (compareOp .NotIn) (rIn K true) := by
  subst hK
  exact op_notIn_seq

/-! ### values by kinds; numbers that are refused -/
/-- v is of the built-in kind t -/
inductive NT (H : Hp) : V → String → Prop where
  | non : NT H .non "NoneType"
  | bl (b : Bool) : NT H (.bl b) "bool"
  | int (i : Int) : NT H (.int i) "int"
  | str (x : Str) : NT H (.str x) "str"
  | lst {a : Addr} {xs : List V} : H a = some (.lst xs) → NT H (.ref a) "list"
  | tup {a : Addr} {xs : List V} : H a = some (.tup xs) → NT H (.ref a) "tuple"
  | dic {a : Addr} {kvs : List (Key × V)} : H a = some (.dK kvs) → NT H (.ref a) "dict"
theorem NT.same {H H' : Hp} (s : Same H H') {v : V} {t : String} (h : NT H v t) : NT H' v t := by
  cases h with
  | non => exact .non
  | bl b => exact .bl b
  | int i => exact .int i
  | str x => exact .str x
  | lst e => exact .lst (s _ _ e)
  | tup e => exact .tup (s _ _ e)
  | dic e => exact .dic (s _ _ e)
theorem NT.ty {K : PySem.W.Frag} {H : Hp} {v : V} {t : String} (h : NT H v t) : TyX K H v (.type t) := by
  cases h with
  | non => exact .base .non
  | bl b => exact .base (.bl b)
  | int i => exact .base (.int i)
  | str x => exact .base (.str x)
  | lst e => exact .base (.lst e)
  | tup e => exact .base (.tup e)
  | dic e => exact .base (.dK e)
theorem NT.kit {H : Hp} {v : V} {t : String} (h : NT H v t) : ∃ b1 b2, kitB t "int" = some b1 ∧ kitB t "bool" = some b2 ∧ (b1 && !b2) = (t == "int") := by
  cases h with
  | non => exact ⟨false, false, by decide +kernel, by decide +kernel, by decide +kernel⟩
  | bl b => exact ⟨true, true, by decide +kernel, by decide +kernel, by decide +kernel⟩
  | int i => exact ⟨true, false, by decide +kernel, by decide +kernel, by decide +kernel⟩
  | str x => exact ⟨false, false, by decide +kernel, by decide +kernel, by decide +kernel⟩
  | lst e => exact ⟨false, false, by decide +kernel, by decide +kernel, by decide +kernel⟩
  | tup e => exact ⟨false, false, by decide +kernel, by decide +kernel, by decide +kernel⟩
  | dic e => exact ⟨false, false, by decide +kernel, by decide +kernel, by decide +kernel⟩
theorem NT.tupB {H : Hp} {v : V} {t : String} (h : NT H v t) : kitB t "tuple" = some (t == "tuple") := by
  cases h <;> decide +kernel
theorem NT.isInt {H : Hp} {v : V} {t : String} (h : NT H v t) (e : t = "int") : ∃ i, v = .int i := by
  cases h with
  | int i => exact ⟨i, rfl⟩
  | _ => exact absurd e (by decide)
/-- def f(*v) of the text, which may raise -/
theorem star_okX {x qual pv : Str} {k : Nat} {st : Stmt} {f : Addr} {fd : FuncData} {N : List Str} {sp : List V → Hp → VK → XK → Prop}
    (F : Fun K x qual st f fd) (S : FnScope N [pv] (defScope st))
    (hb : ∀ (kV doc pm : Value) (an : Option Addr) (cdv ct : Value) (rest : List Value), bindArgs (PySem.W.fnOf x qual (defArgs st) (defBody st) (defScope st) .none kV doc pm an cdv ct) { pos := rest, kw := [] } = (newTuple rest >>= fun t => pure [(pv, t)]))
    (go : ∀ (cdv : Value) (A : Around) (outer : List Env) (s : Shared) (H : Hp) (vs : List V) (p : Addr) (H0 : Hp) (Q : VK) (E : XK), Room k (A.deeper (envOfC qual (defScope st) s.heap.objs.size f cdv)) → sp vs H0 Q E → vs.length ≤ sizeLine → H0 p = Option.none → H = upd H0 p (.tup vs) →
      ∃ t, PSs (cxOf (L2.CX P w) P w K mg base N qual (defScope st) f cdv A outer s H E) (defBody st) t ∧ t { nx := fun _ H1 => Q .non H1, rt := Q } (start N [V.ref p]) H) :
    FnR P w K mg base (L2.CX P w) (k + 1) f (fun vs H Q E => vs.length ≤ sizeLine ∧ sp vs H Q E) := by
  obtain ⟨oc, od, kV, doc, pm, an, cdv, ct, osl, e, lk, hcd⟩ := F.ex
  subst e
  refine FnR.imp (fn_star (ps := []) (pv := pv) (CX := L2.CX P w) (sp := fun ws H Q E => ∃ (vs : List V) (p : Addr) (H0 : Hp), ws = [V.ref p] ∧ sp vs H0 Q E ∧ vs.length ≤ sizeLine ∧ H0 p = Option.none ∧ H = upd H0 p (.tup vs)) lk hcd S cxUp (fun us rest hl => ?_) fun A outer s H vs Q E hr h => ?_) fun vs H Q E h => ?_
  · have e : us = [] := List.length_eq_zero_iff.mp hl
    subst e
    show bindArgs _ { pos := rest, kw := [] } = _
    rw [hb]
    rfl
  · obtain ⟨ws, p, H0, rfl, hs, hl, hp, rfl⟩ := h
    exact go cdv A outer s _ ws p H0 Q E hr hs hl hp rfl
  · exact ⟨[], vs, rfl, rfl, h.1, fun p hp => ⟨vs, p, H, rfl, h.2, h.1, hp, rfl⟩⟩

/-! ### zip of a list or a tuple with a list or a tuple -/
def SqX (K : PySem.W.Frag) (k : Bool) (H : Hp) (a : Addr) (xs : List V) : Prop := (k = true ∧ SqL K H a xs) ∨ (k = false ∧ SqT K H a xs)
def Isq (k : Bool) (g : Heap) (a : Addr) (us : Array Value) : Prop := match k with | true => g.IsList a us | false => g.IsTuple a us
def Iit (k : Bool) (g : Heap) (it a : Addr) (j : Nat) : Prop := match k with | true => g.IsListIter it a j | false => g.IsTupleIter it a j
def itO (k : Bool) (a : Addr) : Obj := match k with | true => { cls := .type "list_iterator", data := .fields #[.ref a, .int 0 0] } | false => { cls := .type "tuple_iterator", data := .fields #[.ref a, .int 0 0] }
theorem Isq.lt {k : Bool} {g : Heap} {a : Addr} {us : Array Value} (h : Isq k g a us) : ∃ o, g.get? a = some o := by
  cases k with
  | true => obtain ⟨o, e, _⟩ := (h : g.IsList a us); exact ⟨o, e⟩
  | false => obtain ⟨o, e, _⟩ := (h : g.IsTuple a us); exact ⟨o, e⟩
theorem Iit.to {k : Bool} {g g' : Heap} {it a : Addr} {j : Nat} (h : Iit k g it a j) (q : ∀ o, g.get? it = some o → g'.get? it = some o) : Iit k g' it a j := by
  cases k with
  | true => exact (h : g.IsListIter it a j).at q
  | false => exact (h : g.IsTupleIter it a j).at q
theorem Iit.obj {k : Bool} {g : Heap} {it a : Addr} {j : Nat} (h : Iit k g it a j) : ∃ o, g.get? it = some o ∧ ∃ fs, o.data = .fields fs := by
  cases k with
  | true => obtain ⟨o, e, _, d⟩ := (h : g.IsListIter it a j); exact ⟨o, e, _, d⟩
  | false => obtain ⟨o, e, _, d⟩ := (h : g.IsTupleIter it a j); exact ⟨o, e, _, d⟩
theorem Isq.apart {k : Bool} {g : Heap} {k2 : Bool} {it a b : Addr} {j : Nat} {us : Array Value} (h : Isq k g a us) (h2 : Iit k2 g it b j) : a ≠ it := fun z => by
  subst z
  cases k with
  | true =>
    obtain ⟨o, e, c, _⟩ := (h : g.IsList a us)
    cases k2 with
    | true => obtain ⟨o2, e2, c2, _⟩ := (h2 : g.IsListIter a b j); rw [e] at e2; cases e2; rw [c] at c2; exact absurd c2 (by decide)
    | false => obtain ⟨o2, e2, c2, _⟩ := (h2 : g.IsTupleIter a b j); rw [e] at e2; cases e2; rw [c] at c2; exact absurd c2 (by decide)
  | false =>
    obtain ⟨o, e, c, _⟩ := (h : g.IsTuple a us)
    cases k2 with
    | true => obtain ⟨o2, e2, c2, _⟩ := (h2 : g.IsListIter a b j); rw [e] at e2; cases e2; rw [c] at c2; exact absurd c2 (by decide)
    | false => obtain ⟨o2, e2, c2, _⟩ := (h2 : g.IsTupleIter a b j); rw [e] at e2; cases e2; rw [c] at c2; exact absurd c2 (by decide)
theorem drawsX {prog : Program} {w : World} {A : Around} (hh : A.handled = Option.none) (k : Bool) (it a : Addr) (ne : a ≠ it) (us : Array Value) : Draws prog w A it [it, a] us.size (fun j v => us[j]? = some v) (fun j g => Iit k g it a j ∧ Isq k g a us) := by
  cases k with
  | true => exact Draws.list hh it a ne us
  | false => exact Draws.tuple hh it a ne us
theorem beginsX (k : Bool) (a : Addr) (us : Array Value) : Begins (.ref a) (itO k a) fun g => Isq k g a us := by
  cases k with
  | true => exact begins_list a us
  | false => exact begins_tuple a us
theorem iit_new (k : Bool) {g : Heap} {it a : Addr} (h : g.get? it = some (itO k a)) : Iit k g it a 0 := by
  cases k with
  | true => exact ⟨_, h, rfl, rfl⟩
  | false => exact ⟨_, h, rfl, rfl⟩
theorem SqX.is {X : Cx} {pins : List (Addr × Obj)} {σ : L2.St} {H : Hp} {s : Shared} {k : Bool} {a : Addr} {xs : List V} (I : Inv X pins σ H s) (h : SqX X.K k H a xs) : ∃ us : List Value, Vals xs us ∧ Isq k s.heap a us.toArray := by
  rcases h with ⟨rfl, h⟩ | ⟨rfl, h⟩
  · obtain ⟨us, rv, pl, _⟩ := I.list h
    exact ⟨us, rv, pl.isList⟩
  · obtain ⟨us, rv, pl, _⟩ := I.tuple h
    exact ⟨us, rv, pl⟩
theorem SqX.one {X : Cx} {pins : List (Addr × Obj)} {σ : L2.St} {H : Hp} {s : Shared} {k : Bool} {a : Addr} {xs ys : List V} (I : Inv X pins σ H s) (h : SqX X.K k H a xs) (h2 : SqX X.K k H a ys) : xs = ys := by
  rcases h with ⟨rfl, h⟩ | ⟨rfl, h⟩
  · rcases h2 with ⟨_, h2⟩ | ⟨z, _⟩
    · exact I.list_inj h h2
    · cases z
  · rcases h2 with ⟨z, _⟩ | ⟨_, h2⟩
    · cases z
    · exact I.tuple_inj h h2
/-- the two as they stand at each turn, their items in new pairs -/
def ItzM (K : PySem.W.Frag) (k1 k2 : Bool) (a b : Addr) : It :=
  ⟨fun j H => ∃ (xs ys : List V) (x y : V), SqX K k1 H a xs ∧ SqX K k2 H b ys ∧ xs[j]? = some x ∧ ys[j]? = some y,
    fun j H v G => ∃ T x y, v = .ref T ∧ H T = Option.none ∧ G = upd H T (.tup [x, y]) ∧ (∀ xs, SqX K k1 H a xs → xs[j]? = some x) ∧ ∀ ys, SqX K k2 H b ys → ys[j]? = some y,
    fun j H => ∃ xs ys : List V, SqX K k1 H a xs ∧ SqX K k2 H b ys ∧ j ≤ xs.length ∧ j ≤ ys.length ∧ (j = xs.length ∨ j = ys.length)⟩
theorem turn_zipM {P : Program} {w : World} {K : PySem.W.Frag} {elts : List Expr} {kk : Nat} {tpos : Pos} {k1 k2 : Bool} {a b z TI TO i1 i2 : Addr} (S : ZipSep2 z TI TO i1 i2 [i1, a] [i2, b]) :
    Turn P w K (.Tuple elts kk tpos) (ItzM K k1 k2 a b) [z, TI, TO, i1, i2] z (fun j g => IsZip g z TI TO .none ∧ IsTupOf2 g TI (.ref i1) (.ref i2) ∧ (∃ x y, IsTupOf2 g TO x y) ∧ Iit k1 g i1 a j ∧ Iit k2 g i2 b j) where
  mem := by simp
  obj := fun j g st c hc => by
    obtain ⟨hz, hTI, ⟨x, y, hTO⟩, h1, h2⟩ := st
    obtain ⟨o1, e1, f1, d1⟩ := h1.obj
    obtain ⟨o2, e2, f2, d2⟩ := h2.obj
    simp only [List.mem_cons, List.not_mem_nil, or_false] at hc
    rcases hc with q | q | q | q | q
    · subst q; exact ⟨_, hz, fun v q => nomatch q⟩
    · subst q; exact ⟨_, hTI, fun v q => nomatch q⟩
    · subst q; exact ⟨_, hTO, fun v q => nomatch q⟩
    · subst q; exact ⟨o1, e1, fun v q => by rw [d1] at q; cases q⟩
    · subst q; exact ⟨o2, e2, fun v q => by rw [d2] at q; cases q⟩
  keep := fun j g g' st k => by
    obtain ⟨hz, hTI, ⟨x, y, hTO⟩, h1, h2⟩ := st
    exact ⟨k z (by simp) _ hz, k TI (by simp) _ hTI, ⟨x, y, k TO (by simp) _ hTO⟩, h1.to fun o q => k i1 (by simp) o q, h2.to fun o q => k i2 (by simp) o q⟩
  item := by
    intro X hP hw hK hc j pins s σ H E I hf st hg
    subst hP hw hK
    obtain ⟨hz, hTI, ⟨x0, y0, hTO⟩, h1, h2⟩ := st
    obtain ⟨xs, ys, x, y, qx, qy, hx, hy⟩ := hg
    obtain ⟨us, ru, p1⟩ := qx.is I
    obtain ⟨vs, rv, p2⟩ := qy.is I
    obtain ⟨u, hu, ru1⟩ := ru.get hx
    obtain ⟨v, hv, rv1⟩ := rv.get hy
    have zl : z < s.heap.objs.size := Heap.lt_size hz
    have hh : X.A.in1.handled = Option.none := I.ok.hd hc
    refine wpAny_pyNext_zipD2_item S (drawsX hh k1 i1 a (p1.apart h1) us.toArray) (drawsX hh k2 i2 b (p2.apart h2) vs.toArray) hz hTI hTO ⟨h1, p1⟩ ⟨h2, p2⟩ (by rw [List.size_toArray]; exact (List.getElem?_eq_some_iff.mp hu).1) (by rw [List.size_toArray]; exact (List.getElem?_eq_some_iff.mp hv).1) fun y1 y2 g tk e1 e2 z' TO' s1 s2 hT hsz hk => ?_
    have e1 : y1 = u := by
      have : us[j]? = some y1 := by simpa using e1
      rw [hu] at this
      exact (Option.some.inj this).symm
    have e2 : y2 = v := by
      have : vs[j]? = some y2 := by simpa using e2
      rw [hv] at this
      exact (Option.some.inj this).symm
    subst e1
    subst e2
    refine ⟨_, rfl, wpAny_letOwnedTupleGo_zip (s := { s with heap := g, toks := tk }) z' fun g2 z2 sb => ?_⟩
    have hT2 : g2.get? s.heap.objs.size = some { cls := .type "tuple", data := .seq #[y1, y2] } := (sb.2 _ (Nat.ne_of_gt zl)).trans hT
    have new : ObjOk X.prog X.w (upd H s.heap.objs.size (.tup [x, y])) g2 s.heap.objs.size (.tup [x, y]) := ⟨by show 2 ≤ sizeLine; decide, [y1, y2], .cons ru1 (.cons rv1 .nil), ⟨_, hT2, rfl, _, rfl⟩⟩
    have kp : ∀ c o, c ∉ [z, TI, TO, i1, i2] → s.heap.get? c = some o → g2.get? c = some o := fun c o hb q => by
      simp only [List.mem_cons, List.not_mem_nil, or_false, not_or] at hb
      exact (sb.2 c hb.1).trans (hk c o hb.1 hb.2.2.1 hb.2.2.2.1 hb.2.2.2.2 q)
    have I1 : Inv X pins σ (upd H s.heap.objs.size (.tup [x, y])) { s with heap := g2, toks := tk } := I.turnedNew (ch := [z, TI, TO, i1, i2]) kp hf (Nat.le_refl _) new
    have low : ∀ c ∈ [z, TI, TO, i1, i2], c < s.heap.objs.size := fun c hcm => by
      simp only [List.mem_cons, List.not_mem_nil, or_false] at hcm
      obtain ⟨o1, f1, _⟩ := h1.obj
      obtain ⟨o2, f2, _⟩ := h2.obj
      rcases hcm with q | q | q | q | q
      · subst q; exact zl
      · subst q; exact Heap.lt_size hTI
      · subst q; exact Heap.lt_size hTO
      · subst q; exact Heap.lt_size f1
      · subst q; exact Heap.lt_size f2
    refine ⟨.ref s.heap.objs.size, _, I1, rfl, ⟨_, x, y, rfl, I.hok.fresh (Nat.le_refl _), rfl, fun l hl => by rw [SqX.one I hl qx]; exact hx, fun l hl => by rw [SqX.one I hl qy]; exact hy⟩, ⟨z2, ?_, ⟨y1, y2, ?_⟩, ?_, ?_⟩, fun c hcm => ?_⟩
    · exact (sb.2 _ S.TIz).trans (hk _ _ S.TIz S.TITO S.TIi1 S.TIi2 hTI)
    · exact (sb.2 _ S.TOz).trans TO'
    · exact s1.1.to fun o q => (sb.2 _ S.zi1.symm).trans q
    · exact s2.1.to fun o q => (sb.2 _ S.zi2.symm).trans q
    · rw [upd_ne (Nat.ne_of_lt (low c hcm))]
      exact (hf c hcm).1
  done := by
    intro X hP hw hK hc j pins s σ H E I hf st hg
    subst hP hw hK
    obtain ⟨hz, hTI, ⟨x0, y0, hTO⟩, h1, h2⟩ := st
    obtain ⟨xs, ys, qx, qy, l1, l2, hend⟩ := hg
    obtain ⟨us, ru, p1⟩ := qx.is I
    obtain ⟨vs, rv, p2⟩ := qy.is I
    have e1 := ru.length
    have e2 := rv.length
    have hh : X.A.in1.handled = Option.none := I.ok.hd hc
    exact wpAny_pyNext_zipD2_end S (drawsX hh k1 i1 a (p1.apart h1) us.toArray) (drawsX hh k2 i2 b (p2.apart h2) vs.toArray) hz hTI hTO ⟨h1, p1⟩ ⟨h2, p2⟩ (by rw [List.size_toArray]; omega) (by rw [List.size_toArray]; omega) (by rw [List.size_toArray, List.size_toArray]; omega) fun g tk hk => ⟨rfl, I.turnedL (t' := tk) (ch := [z, TI, TO, i1, i2]) (fun c o hb q => by
      simp only [List.mem_cons, List.not_mem_nil, or_false, not_or] at hb
      exact hk c o hb.1 hb.2.2.1 hb.2.2.2.1 hb.2.2.2.2 q) hf⟩
  self := fun A j s Q E st h => wpAny_pyIter_zip st.1 h
section
variable {X : Cx}
def iZipM (K : PySem.W.Frag) (ta : TA) : TI := fun σ H R => ta σ H fun vs H1 => ∃ k1 k2 a b xs ys, vs = [.ref a, .ref b] ∧ SqX K k1 H1 a xs ∧ SqX K k2 H1 b ys ∧ R (ItzM K k1 k2 a b) H1
theorem pi_zipM {e e2 : Expr} {ta : TA} {p pos tpos : Pos} {elts : List Expr} {kk : Nat} (hg : Gl X "zip") (hm : X.mg "zip" = Option.none) (ha : PA X [e, e2] ta)
    (hs : starEach [e, e2] X.env = (false, eval e X.env) :: starEach [e2] X.env := by rfl) (hpl : (backTo pos (starEach [e2] X.env)).any (·.1) = false := by rfl) : PI X (.Tuple elts kk tpos) (.Call (.Name "zip" p) [e, e2] [] pos) (iZipM X.K ta) := by
  refine ⟨fun pins s σ H R I h => Call_ (ld_blt I hg hm PyProof.Rows.boot_zip (PyProof.Rows.callWith_type1 (thn (ha.run pos pins s σ H _ I h) fun us s1 ⟨vs, H1, I1, r1, q1⟩ => ?_) hs hpl))⟩
  obtain ⟨k1, k2, a, b, xs, ys, ev, qx, qy, q⟩ := q1
  subst ev
  obtain ⟨u1, u2, rfl, r1, r2⟩ := vals2 r1
  cases r1
  cases r2
  obtain ⟨us, ru, p1⟩ := qx.is I1
  obtain ⟨ws, rw', p2⟩ := qy.is I1
  obtain ⟨oa, ea⟩ := p1.lt
  obtain ⟨ob, eb⟩ := p2.lt
  have la : a < s1.heap.objs.size := Heap.lt_size ea
  have lb : b < s1.heap.objs.size := Heap.lt_size eb
  have sep : ZipSep2 (s1.heap.objs.size + 4) (s1.heap.objs.size + 2) (s1.heap.objs.size + 3) s1.heap.objs.size (s1.heap.objs.size + 1) [s1.heap.objs.size, a] [s1.heap.objs.size + 1, b] := by
    have nm : ∀ {x y v : Addr}, x ≠ y → x ≠ v → x ∉ [y, v] := fun h1 h2 h => by
      rcases List.mem_cons.mp h with z | z
      · exact h1 z
      · exact h2 (List.mem_singleton.mp z)
    have up : ∀ {m n : Nat}, n < m → m ≠ n := fun h => Nat.ne_of_gt h
    have dn : ∀ {m n : Nat}, n < m → n ≠ m := fun h => Nat.ne_of_lt h
    have fa : ∀ m : Nat, a < s1.heap.objs.size + m := fun m => Nat.lt_of_lt_of_le la (Nat.le_add_right _ _)
    have fb : ∀ m : Nat, b < s1.heap.objs.size + m := fun m => Nat.lt_of_lt_of_le lb (Nat.le_add_right _ _)
    exact ⟨dn (by omega), dn (by omega), dn (by omega), up (by omega), List.mem_cons_self, nm (up (by omega)) (up (fa 4)), nm (up (by omega)) (up (fa 3)), up (by omega), List.mem_cons_self, nm (up (by omega)) (up (fb 4)), nm (up (by omega)) (up (fb 3)), nm (dn (by omega)) (up lb), nm (up (by omega)) (up (fa 1))⟩
  have fresh5 : ∀ c ∈ [s1.heap.objs.size + 4, s1.heap.objs.size + 2, s1.heap.objs.size + 3, s1.heap.objs.size, s1.heap.objs.size + 1], FpOk X pins H1 c := fun c hb => by
    have le : s1.heap.objs.size ≤ c := by
      simp only [List.mem_cons, List.not_mem_nil, or_false] at hb
      rcases hb with z | z | z | z | z
      · rw [z]; exact Nat.le_add_right _ _
      · rw [z]; exact Nat.le_add_right _ _
      · rw [z]; exact Nat.le_add_right _ _
      · rw [z]; exact Nat.le_refl _
      · rw [z]; exact Nat.le_add_right _ _
    exact I1.fpOk le (I1.hok.fresh le)
  refine zip_begins2 (beginsX k1 a us.toArray) (beginsX k2 b ws.toArray) p1 p2 fun g hz hTI hTO g1 g2 hsz kp => wpAny_pyIter_zip hz ?_
  exact ⟨s1.heap.objs.size + 4, [s1.heap.objs.size + 4, s1.heap.objs.size + 2, s1.heap.objs.size + 3, s1.heap.objs.size, s1.heap.objs.size + 1], _, _, H1, rfl, I1.kept (t' := s1.toks) kp, turn_zipM sep, ⟨hz, hTI, ⟨_, _, hTO⟩, iit_new k1 g1, iit_new k2 g2⟩, fresh5, q⟩
end
/-- a loop over zip of two of one length -/
theorem for_zipM {K : PySem.W.Frag} {k1 k2 : Bool} {a b : Addr} {xs ys : List V} {g : TG} {tb : TS} {D : Ends} {σ : L2.St} {H : Hp} (hl : xs.length = ys.length) (Pv : Nat → L2.St → Hp → Prop) (h0 : Pv 0 σ H) (hq : ∀ j σ H, Pv j σ H → SqX K k1 H a xs ∧ SqX K k2 H b ys)
    (hs : ∀ (j : Nat) (x y : V) (T : Addr) (σ : L2.St) (H : Hp), xs[j]? = some x → ys[j]? = some y → Pv j σ H → H T = Option.none → g (.ref T) σ (upd H T (.tup [x, y])) fun σ2 H2 => tb { D with nx := Pv (j + 1), ct := Pv (j + 1), bk := D.nx } σ2 H2) (hd : ∀ σ H, Pv xs.length σ H → D.nx σ H) :
    ∃ W : Nat → Nat → L2.St → Hp → Prop, (∃ m, W 0 m σ H) ∧ ∀ j m σ H, W j m σ H →
      ((ItzM K k1 k2 a b).stop j H ∧ D.nx σ H) ∨ ((ItzM K k1 k2 a b).go j H ∧ ∃ N : L2.St → Hp → Prop, (∀ τ G, N τ G → ∃ n, n < m ∧ W (j + 1) n τ G) ∧ ∀ v G, (ItzM K k1 k2 a b).yld j H v G → g v σ G fun σ2 H2 => tb { D with nx := N, ct := N, bk := D.nx } σ2 H2) := by
  refine ⟨fun j m σ H => m = xs.length - j ∧ j ≤ xs.length ∧ Pv j σ H, ⟨xs.length, rfl, Nat.zero_le _, h0⟩, ?_⟩
  rintro j m σ H ⟨rfl, hi, p⟩
  obtain ⟨qx, qy⟩ := hq j σ H p
  by_cases lt : j < xs.length
  · have hx := List.getElem?_eq_getElem lt
    have hy := List.getElem?_eq_getElem (show j < ys.length by omega)
    refine .inr ⟨⟨xs, ys, _, _, qx, qy, hx, hy⟩, Pv (j + 1), fun τ G p' => ⟨xs.length - (j + 1), by omega, rfl, lt, p'⟩, fun v G y => ?_⟩
    obtain ⟨T, x2, y2, rfl, hT, rfl, f1, f2⟩ := y
    exact hs j x2 y2 T σ H (f1 xs qx) (f2 ys qy) p hT
  · have e : j = xs.length := by omega
    subst e
    exact .inl ⟨⟨xs, ys, qx, qy, Nat.le_refl _, by omega, .inl rfl⟩, hd σ H p⟩

theorem meets_enum1 {v : Value} {o : Obj} {I0 : Heap → Prop} (Bg : Begins v o I0) : Meets (Builtin.«enumerate.__new__» ⟨[.type "enumerate", v], []⟩) (fun _ R s => I0 s.heap ∧ R (.ok (.ret (.ref (s.heap.push o).objs.size))) { s with heap := (s.heap.push o).push { cls := .type "enumerate", data := .fields #[.none, .bool false, .ref s.heap.objs.size, rawInt 0, .none, .none] } }) :=
  .of_wp fun pr wd A R z hz => by
    obtain ⟨g0, gg, dd, k0, os⟩ := z
    obtain ⟨h1, h2⟩ := hz
    have hsub := sub_enumerate
    have it1 : ∀ {A' : Around} {E' : Value → Shared → Prop} {Q' : Value → Shared → Prop}, Q' (.ref g0.objs.size) ⟨g0.push o, gg, dd, k0, os⟩ → wpAny (model pr wd) A' (pyIter v) Q' E' ⟨g0, gg, dd, k0, os⟩ := fun q => Bg.iter pr wd _ _ ⟨g0, gg, dd, k0, os⟩ _ h1 q
    wp_walk using it1
    refine wpAny_stack_any fun _ => wpAny_pure ?_
    split
    · rename_i cc _ _ _ _ _
      cases (cc == Value.type "enumerate") <;> (wp_walk using it1; exact ⟨_, rfl, h2⟩)
    · wp_walk using it1
      exact ⟨_, rfl, h2⟩
theorem call_enum1 {pr : Program} {wd : World} {B : Around} {EE : Value → Shared → Prop} {z : Shared} {v : Value} {o : Obj} {I0 : Heap → Prop} {Q : Value → Shared → Prop} (Bg : Begins v o I0) (h1 : I0 z.heap)
    (h : ∀ g, IsEnum g (z.heap.objs.size + 1) z.heap.objs.size 0 .none → g.get? z.heap.objs.size = some o → g.objs.size = z.heap.objs.size + 2 → (∀ b u, z.heap.get? b = some u → g.get? b = some u) → Q (.ref (z.heap.objs.size + 1)) { z with heap := g }) :
    wpAny (model pr wd) B (call (.type "enumerate") [v]) Q EE z := by
  refine callType_new F.called_enumerate (by decide) (F.typeCall_enumerate_1 _) (F.newCall_enumerate_1 _) (fun ob => F.args_object_init_2 ob _) F.entry_enumerate_new (meets_enum1 Bg) ⟨h1, ?_⟩
  have s1 : (z.heap.push o).objs.size = z.heap.objs.size + 1 := Heap.size_push ..
  show _ ∧ _
  rw [s1]
  have he : IsEnum ((z.heap.push o).push { cls := .type "enumerate", data := .fields #[.none, .bool false, .ref z.heap.objs.size, rawInt 0, .none, .none] }) (z.heap.objs.size + 1) z.heap.objs.size 0 .none := by
    rw [← s1]
    exact Heap.get?_push_size (z.heap.push o) rfl
  exact ⟨⟨_, he, rfl⟩, h _ he (Heap.get?_push_of_some _ (Heap.get?_push_size _ Bg.free)) (by rw [Heap.size_push, s1]) fun b u q => Heap.get?_push_of_some _ (Heap.get?_push_of_some _ q)⟩
section
variable {X : Cx}
/-- the tuple at a, each item in a new pair -/
def IteT (K : PySem.W.Frag) (a : Addr) : It :=
  ⟨fun i H => ∃ (xs : List V) (x : V), SqT K H a xs ∧ xs[i]? = some x, fun i H v H' => ∃ T x, v = .ref T ∧ H T = Option.none ∧ H' = upd H T (.tup [.int (i : Nat), x]) ∧ ∀ xs, SqT K H a xs → xs[i]? = some x, fun i H => ∃ xs : List V, SqT K H a xs ∧ xs.length ≤ i⟩
theorem turn_enumT {P : Program} {w : World} {K : PySem.W.Frag} {elts : List Expr} {kk : Nat} {tpos : Pos} (a e it : Addr) :
    Turn P w K (.Tuple elts kk tpos) (IteT K a) [e, it] e (fun i h => (∃ old, IsEnum h e it ((i : Nat) : Int) old) ∧ h.IsTupleIter it a i ∧ e ≠ it) where
  mem := by simp
  obj := fun j g st b hb => by
    obtain ⟨⟨old, q⟩, ⟨o, o1, o2, o3⟩, _⟩ := st
    rcases List.mem_cons.mp hb with y | y
    · rw [y]; exact ⟨_, q, fun v z => nomatch z⟩
    · rw [List.mem_singleton.mp y]; exact ⟨o, o1, fun v z => by rw [o3] at z; cases z⟩
  keep := fun j g g' st k => by
    obtain ⟨⟨old, q⟩, hi, ne⟩ := st
    exact ⟨⟨old, k e List.mem_cons_self _ q⟩, hi.at fun o y => k it (by simp) o y, ne⟩
  item := by
    intro X hP hw hK hc i pins s σ H E I hf st hg
    subst hP hw hK
    obtain ⟨⟨old, he⟩, hit, hne⟩ := st
    obtain ⟨xs, x, hq, hx⟩ := hg
    obtain ⟨its, rv, pl, hz⟩ := I.tuple hq
    obtain ⟨u, hu, ru⟩ := rv.get hx
    obtain ⟨oa, oa1, oa2, _⟩ := id pl
    obtain ⟨oi, oi1, oi2, _⟩ := id hit
    have nai : a ≠ it := fun y => by
      rw [y, oi1] at oa1
      cases oa1
      rw [oi2] at oa2
      exact absurd oa2 (by decide)
    have nae : e ≠ a := fun y => by
      rw [y] at he
      have he : s.heap.get? a = _ := he
      rw [oa1] at he
      cases he
      exact absurd (show Value.type "enumerate" = Value.type "tuple" from oa2) (by decide)
    have hel : e < s.heap.objs.size := Heap.lt_size he
    have hil : it < s.heap.objs.size := Heap.lt_size oi1
    have ix : i < its.toArray.size := by rw [List.size_toArray]; exact (List.getElem?_eq_some_iff.mp hu).1
    refine wpAny_pyNext_enum_itemD (Draws.tuple (A := X.A.in1) (I.ok.hd hc) it a nai its.toArray) he ⟨hit, pl⟩ ix hne (fun y => ?_) fun v g k hv ho st2 hT hsz kp => ?_
    · rcases List.mem_cons.mp y with y | y
      · exact hne y
      · exact nae (List.mem_singleton.mp y)
    have ev : v = u := by
      have : its[i]? = some v := by simpa using hv
      rw [hu] at this
      exact (Option.some.inj this).symm
    subst ev
    refine ⟨_, rfl, wpAny_letOwnedTupleGo_enum (s := { s with heap := g, toks := k + 1 }) ho fun g2 he2 sb => ?_⟩
    have hT2 : g2.get? s.heap.objs.size = some { cls := .type "tuple", data := .seq #[.int i k, v] } := (sb.2 _ (Nat.ne_of_gt hel)).trans hT
    have new : ObjOk X.prog X.w (upd H s.heap.objs.size (.tup [.int (i : Nat), x])) g2 s.heap.objs.size (.tup [.int (i : Nat), x]) := ⟨by show 2 ≤ sizeLine; decide, [.int i k, v], .cons ⟨_, rfl⟩ (.cons ru .nil), ⟨_, hT2, rfl, _, rfl⟩⟩
    have keep2 : ∀ b o, b ∉ [e, it] → s.heap.get? b = some o → g2.get? b = some o := fun b o hb q => by
      have b1 : b ≠ e := fun z => hb (by rw [z]; exact List.mem_cons_self)
      have b2 : b ≠ it := fun z => hb (by rw [z]; simp)
      exact (sb.2 b b1).trans (kp b o b1 b2 q)
    have I1 : Inv X pins σ (upd H s.heap.objs.size (.tup [.int (i : Nat), x])) { s with heap := g2, toks := k + 1 } := I.turnedNew (ch := [e, it]) keep2 hf (Nat.le_refl _) new
    have low : ∀ b ∈ [e, it], b < s.heap.objs.size := fun b hb => by
      rcases List.mem_cons.mp hb with z | z
      · rw [z]; exact hel
      · rw [List.mem_singleton.mp z]; exact hil
    refine ⟨.ref s.heap.objs.size, _, I1, rfl, ⟨_, x, rfl, I.hok.fresh (Nat.le_refl _), rfl, fun ys hy => by rw [I.tuple_inj hy hq]; exact hx⟩, ⟨⟨v, ?_⟩, st2.1.at fun o q => (sb.2 it (Ne.symm hne)).trans q, hne⟩, fun b hb => ?_⟩
    · rw [show ((i + 1 : Nat) : Int) = (i : Int) + 1 by omega]
      exact he2
    · rw [upd_ne (Nat.ne_of_lt (low b hb))]
      exact (hf b hb).1
  done := by
    intro X hP hw hK hc i pins s σ H E I hf st hg
    subst hP hw hK
    obtain ⟨⟨old, he⟩, hit, hne⟩ := st
    obtain ⟨xs, hq, hx⟩ := hg
    obtain ⟨its, rv, pl, hz⟩ := I.tuple hq
    obtain ⟨f0, f1, f2, f3, f4, f5⟩ := hf it (by simp)
    have none_at : its.toArray[i]? = Option.none := by
      have : its.length ≤ i := by rw [← rv.length]; exact hx
      simpa using this
    have hTy : s.TypeIs (.ref e) "enumerate" := ⟨_, he, rfl⟩
    unfold pyNext
    refine wpAny_bind (wpAny_attempt (wpAny_callSpecial?_slot (name := Str.ofString "__next__") hTy F.slot_enumerate_next ?_))
    refine wpAny_call_entry F.slot_enumerate_next hTy F.entry_enumerate_next ?_ (F.args_enumerate_next_1 _)
    show wpAny _ _ (field (.ref e) 2 >>= _) _ _ _
    refine wpAny_bind (wpAny_field he rfl (x := .ref it) rfl (wpAny_bind (wpAny_nextOf_tuple_end (A := X.A.in1) (I.ok.hd hc) hit pl none_at fun g x eg hx2 => ?_)))
    obtain ⟨ox, ox1, ox2⟩ := hx2
    exact wpAny_bind (wpAny_isInstance (T := "StopIteration") (b := true) ⟨ox, ox1, ox2⟩ isSubtype_stop (wpAny_pure ⟨rfl, I.turned (t' := s.toks) (fun b o hb q => eg b o hb q) f0 f1 f3 f4 f5⟩))
  self := fun A i s Q E st h => by
    obtain ⟨⟨_, he⟩, _⟩ := st
    exact wpAny_pyIter_enum he h
/-- enumerate of a list or of a tuple, walked -/
def iEnum2 (K : PySem.W.Frag) (ta : TA) : TI := fun σ H R => ta σ H fun vs H1 => ∃ a xs, vs = [.ref a] ∧ ((SqL K H1 a xs ∧ R (Ite K a) H1) ∨ (SqT K H1 a xs ∧ R (IteT K a) H1))
theorem pi_enum2 {e : Expr} {ta : TA} {p pos tpos : Pos} {elts : List Expr} {kk : Nat} (hg : Gl X "enumerate") (hm : X.mg "enumerate" = Option.none) (ha : PA X [e] ta) (hs : starEach [e] X.env = [(false, eval e X.env)] := by rfl) : PI X (.Tuple elts kk tpos) (.Call (.Name "enumerate" p) [e] [] pos) (iEnum2 X.K ta) := by
  refine ⟨fun pins s σ H R I h => Call_ (ld_blt I hg hm boot_enumerate (PyProof.Rows.callWith_type1 (thn (ha.run pos pins s σ H _ I h) fun us s1 ⟨vs, H1, I1, r1, q1⟩ => ?_) hs rfl))⟩
  obtain ⟨a, xs, ev, q⟩ := q1
  subst ev
  obtain rfl := Vals.ref1 r1
  have fresh2 : ∀ b ∈ [s1.heap.objs.size + 1, s1.heap.objs.size], FpOk X pins H1 b := fun b hb => by
    have le : s1.heap.objs.size ≤ b := by
      rcases List.mem_cons.mp hb with z | z
      · rw [z]; exact Nat.le_succ _
      · rw [List.mem_singleton.mp z]; exact Nat.le_refl _
    exact I1.fpOk le (I1.hok.fresh le)
  rcases q with ⟨hq, q⟩ | ⟨hq, q⟩
  · obtain ⟨its, rv, pl, hz⟩ := I1.list hq
    refine call_enum1 (begins_list a its.toArray) pl.isList fun g he hj hsz kp => wpAny_pyIter_enum he ?_
    exact ⟨s1.heap.objs.size + 1, [s1.heap.objs.size + 1, s1.heap.objs.size], _, _, H1, rfl, I1.kept (t' := s1.toks) kp, turn_enum a (s1.heap.objs.size + 1) s1.heap.objs.size, ⟨⟨.none, he⟩, ⟨_, hj, rfl, rfl⟩, Nat.succ_ne_self _⟩, fresh2, q⟩
  · obtain ⟨its, rv, pl, hz⟩ := I1.tuple hq
    refine call_enum1 (begins_tuple a its.toArray) pl fun g he hj hsz kp => wpAny_pyIter_enum he ?_
    exact ⟨s1.heap.objs.size + 1, [s1.heap.objs.size + 1, s1.heap.objs.size], _, _, H1, rfl, I1.kept (t' := s1.toks) kp, turn_enumT a (s1.heap.objs.size + 1) s1.heap.objs.size, ⟨⟨.none, he⟩, ⟨_, hj, rfl, rfl⟩, Nat.succ_ne_self _⟩, fresh2, q⟩
end

def pr2 (q : Int × Int) : PyData := .tuple [.int q.1, .int q.2]

/-! ### min of a list of pairs of integers -/
section
variable {X : Cx}
/-- the pairs at some addresses -/
def PrsAt (H : Hp) (ts : List Addr) (qs : List (Int × Int)) : Prop := ts.length = qs.length ∧ ∀ (i : Nat) (t : Addr) (q : Int × Int), ts[i]? = some t → qs[i]? = some q → H t = some (.tup [.int q.1, .int q.2])
theorem PrsAt.same {H H' : Hp} {ts : List Addr} {qs : List (Int × Int)} (s : Same H H') (h : PrsAt H ts qs) : PrsAt H' ts qs := ⟨h.1, fun i t q a b => s _ _ (h.2 i t q a b)⟩
theorem PrsAt.dp {K : PySem.W.Frag} {H : Hp} : ∀ {ts : List Addr} {qs : List (Int × Int)}, PrsAt H ts qs → DpAll K H (ts.map V.ref) (qs.map pr2)
  | [], [], _ => .nil
  | [], _ :: _, h => by cases h.1
  | _ :: _, [], h => by cases h.1
  | t :: ts, q :: qs, h => .cons (.tup (SqT.of (h.2 0 t q rfl rfl)) (.cons (.int _) (.cons (.int _) .nil))) (PrsAt.dp (ts := ts) (qs := qs) ⟨Nat.succ.inj h.1, fun i t' q' a b => h.2 (i + 1) t' q' a b⟩)
def rMinP (K : PySem.W.Frag) : List V → Hp → VK → Prop := fun vs H Q => ∃ (l : Addr) (ts : List Addr) (qs : List (Int × Int)), vs = [V.ref l] ∧ SqL K H l (ts.map V.ref) ∧ PrsAt H ts qs ∧ qs ≠ [] ∧
  ∀ (t : Addr) (q : Int × Int), q ∈ qs → (∀ q' ∈ qs, NM.lexLe q.1 q.2 q'.1 q'.2) → H t = some (.tup [.int q.1, .int q.2]) → Q (.ref t) H
theorem lt_pair (p q : Int × Int) : PySem.W.DatumOrd.lt p q = if p.1 = q.1 then decide (p.2 < q.2) else decide (p.1 < q.1) := rfl
theorem minOf_least : ∀ (xs : List (Int × Int)) (x : Int × Int), PySem.W.minOf x xs ∈ x :: xs ∧ ∀ q ∈ x :: xs, NM.lexLe (PySem.W.minOf x xs).1 (PySem.W.minOf x xs).2 q.1 q.2
  | [], x => ⟨List.mem_cons_self, fun q hq => by rw [List.mem_singleton.mp hq]; exact .inr ⟨rfl, Int.le_refl _⟩⟩
  | y :: ys, x => by
    have e : PySem.W.minOf x (y :: ys) = PySem.W.minOf (if PySem.W.DatumOrd.lt y x = true then y else x) ys := rfl
    rw [e]
    have ih := minOf_least ys (if PySem.W.DatumOrd.lt y x = true then y else x)
    generalize PySem.W.minOf (if PySem.W.DatumOrd.lt y x = true then y else x) ys = m at ih
    by_cases h : PySem.W.DatumOrd.lt y x = true
    · rw [if_pos h] at ih
      refine ⟨List.mem_cons_of_mem _ ih.1, fun q hq => ?_⟩
      rcases List.mem_cons.mp hq with z | z
      · have a := ih.2 y List.mem_cons_self
        rw [lt_pair] at h
        rw [z]
        unfold NM.lexLe at a ⊢
        split at h
        · have := of_decide_eq_true h; omega
        · have := of_decide_eq_true h; omega
      · exact ih.2 q z
    · rw [if_neg h] at ih
      refine ⟨?_, fun q hq => ?_⟩
      · rcases List.mem_cons.mp ih.1 with z | z
        · rw [z]; exact List.mem_cons_self
        · exact List.mem_cons_of_mem _ (List.mem_cons_of_mem _ z)
      · rcases List.mem_cons.mp hq with z | z
        · exact ih.2 q (by rw [z]; exact List.mem_cons_self)
        · rcases List.mem_cons.mp z with z | z
          · have a := ih.2 x List.mem_cons_self
            rw [lt_pair] at h
            rw [z]
            unfold NM.lexLe at a ⊢
            split at h
            · have : ¬ y.2 < x.2 := fun w => h (decide_eq_true w); omega
            · have : ¬ y.1 < x.1 := fun w => h (decide_eq_true w); omega
          · exact ih.2 q (List.mem_cons_of_mem _ z)
theorem vals_refs_eq : ∀ {ts : List Addr} {its : List Value}, Vals (ts.map V.ref) its → its = ts.map Value.ref
  | [], _, .nil => rfl
  | t :: ts, _, .cons r rr => by
    have e : _ = Value.ref t := r
    rw [List.map_cons, ← vals_refs_eq rr, ← e]
theorem cr_minP (hc : X.calm = true) (hu : X.A.units + 64 < cLine) : CallR X (.builtin "min") (rMinP X.K) := by
  intro pins s σ H vs us Q I r h
  obtain ⟨l, ts, qs, rfl, hS, hP, hne, q⟩ := h
  rw [Vals.ref1 r]
  obtain ⟨x, xs, rfl⟩ : ∃ x xs, qs = x :: xs := by
    cases qs with
    | nil => exact absurd rfl hne
    | cons x xs => exact ⟨x, xs, rfl⟩
  obtain ⟨its, rv, pl, hz⟩ := I.list hS
  obtain ⟨as, R⟩ := Dp.reads I _ _ _ (Dp.lst hS hP.dp) (show RelV (V.ref l) (Value.ref l) from rfl)
  obtain ⟨ol, ol1, _, nl, ol2⟩ := id pl.isList
  cases R with
  | list e1 e2 e3 e4 =>
    rw [ol1] at e1
    cases e1
    rw [ol2] at e3
    cases e3
    refine PySem.W.min_list_datum (x := x) (xs := xs) (I.ok.hd hc) pl.isList ⟨_, show ReadsAll s.heap its.toArray.toList ((x :: xs).map pr2) _ from e4⟩ (by show X.A.units + 1 + 1 < cLine; omega) fun i v h' tk hv hH hk => ?_
    obtain ⟨m1, m2⟩ := minOf_least xs x
    generalize PySem.W.minOf x xs = m at m1 m2 hH
    have hv : its[i]? = some v := by simpa using hv
    rw [vals_refs_eq rv, List.getElem?_map] at hv
    obtain ⟨t, ht, rfl⟩ := Option.map_eq_some_iff.mp hv
    have li : i < (x :: xs).length := by rw [← hP.1]; exact (List.getElem?_eq_some_iff.mp ht).1
    obtain ⟨qi, hqi⟩ : ∃ qi, (x :: xs)[i]? = some qi := ⟨_, List.getElem?_eq_getElem li⟩
    have hT := hP.2 i t qi ht hqi
    obtain ⟨bs, R1⟩ := Dp.reads I _ _ _ (Dp.tup (SqT.of hT) (.cons (.int qi.1) (.cons (.int qi.2) .nil))) (show RelV (V.ref t) (Value.ref t) from rfl)
    obtain ⟨cs, R2⟩ := hH
    have e := (Reads.unique (PySem.W.reads_keeps hk R1) _ _ R2).1
    have e : pr2 qi = pr2 m := e
    have em : qi = m := by
      unfold pr2 at e
      cases qi
      cases m
      simp at e
      rw [e.1, e.2]
    subst em
    exact ⟨.ref t, H, I.kept (t' := tk) hk, rfl, q t qi m1 m2 hT⟩
end

/-! ### classes: made by a def with a star, static methods -/
/-- def f(p1, p2, *v) of the text -/
theorem star2_ok {x qual p1 p2 pv : Str} {k : Nat} {st : Stmt} {f : Addr} {fd : FuncData} {N : List Str} {sp : V → V → List V → Hp → VK → XK → Prop}
    (F : Fun K x qual st f fd) (S : FnScope N [p1, p2, pv] (defScope st))
    (hb : ∀ (kV doc pm : Value) (an : Option Addr) (cdv ct : Value) (a b : Value) (rest : List Value), bindArgs (PySem.W.fnOf x qual (defArgs st) (defBody st) (defScope st) .none kV doc pm an cdv ct) ⟨a :: b :: rest, []⟩ = (newTuple rest >>= fun t => pure [(p1, a), (p2, b), (pv, t)]))
    (go : ∀ (cdv : Value) (A : Around) (outer : List Env) (s : Shared) (H : Hp) (a b : V) (vs : List V) (p : Addr) (H0 : Hp) (Q : VK) (E : XK), Room k (A.deeper (envOfC qual (defScope st) s.heap.objs.size f cdv)) → sp a b vs H0 Q E → vs.length ≤ sizeLine → H0 p = Option.none → H = upd H0 p (.tup vs) →
      ∃ t, PSs (cxOf CX0 P w K mg base N qual (defScope st) f cdv A outer s H E).nox (defBody st) t ∧ t { nx := fun _ H1 => Q .non H1, rt := Q } (start N [a, b, V.ref p]) H) :
    FnR P w K mg base CX0 (k + 1) f (fun vs H Q E => ∃ a b rest, vs = a :: b :: rest ∧ rest.length ≤ sizeLine ∧ sp a b rest H Q E) := by
  obtain ⟨oc, od, kV, doc, pm, an, cdv, ct, osl, e, lk, hcd⟩ := F.ex
  subst e
  refine FnR.imp (fn_star (ps := [p1, p2]) (pv := pv) (CX := CX0) (sp := fun ws H Q E => ∃ (a b : V) (vs : List V) (p : Addr) (H0 : Hp), ws = [a, b, V.ref p] ∧ sp a b vs H0 Q E ∧ vs.length ≤ sizeLine ∧ H0 p = Option.none ∧ H = upd H0 p (.tup vs)) lk hcd S cxUp_none (fun us rest hl => ?_) fun A outer s H vs Q E hr h => ?_) fun vs H Q E h => ?_
  · match us, hl with
    | [a, b], _ =>
      show bindArgs _ { pos := a :: b :: rest, kw := [] } = _
      rw [hb]
      rfl
  · obtain ⟨a, b, ws, p, H0, rfl, hs, hl, hp, rfl⟩ := h
    obtain ⟨t, ht, hq⟩ := go cdv A outer s _ a b ws p H0 Q E hr hs hl hp rfl
    exact ⟨t, ht.nox, hq⟩
  · obtain ⟨a, b, rest, rfl, hl, hs⟩ := h
    exact ⟨[a, b], rest, rfl, rfl, hl, fun p hp => ⟨a, b, rest, p, H, rfl, hs, hl, hp, rfl⟩⟩
/-- C(e, ..), the init told of its arguments as they are passed -/
def tMkR (C : Addr) (sp : Sp) (E : XK) (t : TA) : TE := fun σ H Q => t σ H fun vs H1 => ∀ x dx, H1 x = Option.none → H1 dx = Option.none → dx ≠ x → sp (.ref x :: vs) (upd (upd H1 dx (.own x)) x (.ins C dx [])) (fun v H2 => v = .non ∧ Q (.ref x) H2) E
section
variable {X : Cx} {CX : CXT} {k : Nat} {f C p g : Addr} {sp : Sp} {E : XK} {x m : Str} {e o : Expr} {es : List Expr} {kws : List Keyword} {ta : TE} {t tk : TA} {pos apos q : Pos} {mc : Value}
theorem run_mkR {pins : List (Addr × Obj)} {σ : L2.St} {H : Hp} {s : Shared} {Q : VK} {us : List Value} {vs : List V} (M : Mk X.K C f) (F : FnR X.prog X.w X.K X.mg X.base CX k f sp) (hr : Room (k + 1) X.A) (hx : Passes CX X E) (I : Inv X pins σ H s) (r : Vals vs us)
    (h : ∀ x dx, H x = Option.none → H dx = Option.none → dx ≠ x → sp (.ref x :: vs) (upd (upd H dx (.own x)) x (.ins C dx [])) (fun v H2 => v = .non ∧ Q (.ref x) H2) E) : wpAny (model X.prog X.w) X.A (call (.ref C) us) (EP X pins σ Q) X.xe s := by
  have hq := h (s.heap.objs.size + 1) s.heap.objs.size (I.hok.fresh (Nat.le_succ _)) (I.hok.fresh (Nat.le_refl _)) (Nat.ne_of_lt (Nat.lt_succ_self _))
  have I2 := Inv.made (C := C) I
  have r1 : Vals (V.ref (s.heap.objs.size + 1) :: vs) (Value.ref (s.heap.objs.size + 1) :: us) := .cons rfl r
  refine wpAny_call (make_map (f := f) I.kIn M.makes M.init (beq_iff_eq.mp M.fn) (codeAny_mono (F _ X.stack _ _ (Value.ref (s.heap.objs.size + 1) :: us) _ _ E (hr.make C us []) (I2.env0.make C us []) r1 hq) fun r s2 hz => ?_))
  match r, hz with
  | .error er, hz => exact hx pins σ _ _ er s2 I2 hz
  | .ok (.ret u), hz =>
    obtain ⟨v, H3, I3, rv, ev, q3⟩ := I2.after hz
    subst ev
    exact ⟨rv, ⟨V.ref (s.heap.objs.size + 1), H3, I3, rfl, q3⟩⟩
theorem pe_mkR (M : Mk X.K C f) (F : FnR X.prog X.w X.K X.mg X.base CX k f sp) (hr : Room (k + 1) X.A) (hx : Passes CX X E) (hg : Gl X x) (hm : X.mg x = some (.ref C)) (ha : PA X (e :: es) t)
    (hdb : (x == ("__debug__" : Str)) = false := by decide) (he : starEach (e :: es) X.env = (false, eval e X.env) :: starEach es X.env := by rfl) (hpl : (backTo pos (starEach es X.env)).any (·.1) = false := by rfl) : PE X (.Call (.Name x q) (e :: es) [] pos) (tMkR C sp E t) := by
  refine ⟨fun pins s σ H Q I h => wpAny_Call_Name_kw (ld_glob I hg hm ?_ hdb)⟩
  refine PySem.W.callWith_K (h₀ := X.base) I.ok.mod.kin M.kp (thn (ha.run pos pins s σ H _ I h) fun us s1 ⟨vs, H1, I1, r, q⟩ => ⟨I1.kIn, ?_⟩) he hpl
  exact run_mkR M F hr hx I1 r q
/-- C.m is a static method: its record at p, its def at g -/
structure CStat (K : PySem.W.Frag) (C : Addr) (mc : Value) (m : Str) (p g : Addr) : Prop where
  at_ : PySem.W.findCls K (.ref C) mc m = some (.get (.builtin "staticmethod.__get__") (.ref p) .none (.ref C))
  rc : ∃ rest, PySem.W.recIn K p "staticmethod" = some (.ref g :: rest)
  kp : PySem.W.keepIn K (.ref g) = true
theorem getmethst_ok {pins : List (Addr × Obj)} {σ : L2.St} {H : Hp} {s : Shared} {A : Around} {E : Value → Shared → Prop} {pl : Sem Bool} {Q : Value × List Value → Shared → Prop} (I : Inv X pins σ H s) (r : ClX.CRead X.K C mc) (k : CStat X.K C mc m p g)
    (h : ∀ s', Inv X pins σ H s' → Q (.ref g, []) s') : wpAny (model X.prog X.w) A (getMethod (.ref C) m pl) Q E s := by
  obtain ⟨rest, hp⟩ := k.rc
  refine PySem.W.method_cls I.kIn r.ga (PySem.W.cls_bind I.kIn r.rd k.at_ ?_)
  exact wpAny_call (PySem.W.sm_get (s := { s with toks := s.toks + 1 }) I.kIn hp (PySem.W.handed_on rfl (h _ (I.tok _))))
/-- C.m(e, ..) -/
def tStat (C : Addr) (sp : Sp) (E : XK) (ta : TE) (t : TA) : TE := fun σ H Q => ta σ H fun x H1 => x = .ref C ∧ t σ H1 fun vs H2 => sp vs H2 Q E
theorem pe_stat {pl : Sem Bool} (he : PE X o ta) (r : ClX.CRead X.K C mc) (c : CStat X.K C mc m p g) (F : FnR X.prog X.w X.K X.mg X.base CX k g sp) (hr : Room k X.A) (hx : Passes CX X E) (ha : PA X (e :: es) t)
    (hst : starEach (e :: es) X.env = (false, eval e X.env) :: starEach es X.env := by rfl) (hpl : (backTo pos (starEach es X.env)).any (·.1) = false := by rfl)
    (ht : eval (.Call (.Attribute o m apos) (e :: es) [] pos) X.env = (do
      let ov ← eval o X.env
      standAt apos.atName
      let (f, first) ← holding [ov] (getMethod ov m pl)
      callWith pos f first (backTo pos (starEach (e :: es) X.env)) (backToKw pos (keywordEach [] X.env))) := by rfl) :
    PE X (.Call (.Attribute o m apos) (e :: es) [] pos) (tStat C sp E ta t) := by
  refine ⟨fun pins s σ H Q I h => PySem.W.methodCall_KW (pl := pl) (thn (he.run pins s σ H _ I h) fun u s1 ⟨x, H1, I1, rx, ex, q⟩ => ?_) ht⟩
  subst ex
  obtain rfl : u = Value.ref C := rx
  refine getmethst_ok I1 r c fun s2 I2 => ?_
  refine PySem.W.callWith_K (h₀ := X.base) I.ok.mod.kin c.kp (thn (ha.run pos pins s2 σ H1 _ I2 q) fun us s3 ⟨vs, H2, I3, rv, q2⟩ => ⟨I3.kIn, ?_⟩) hst hpl
  exact wpAny_call (run_fnR F hr hx I3 rv q2)
theorem pe_stat0 {pl : Sem Bool} (he : PE X o ta) (r : ClX.CRead X.K C mc) (c : CStat X.K C mc m p g) (F : FnR X.prog X.w X.K X.mg X.base CX k g sp) (hr : Room k X.A) (hx : Passes CX X E)
    (ht : eval (.Call (.Attribute o m apos) [] [] pos) X.env = (do
      let ov ← eval o X.env
      standAt apos.atName
      let (f, first) ← holding [ov] (getMethod ov m pl)
      callWith pos f first (backTo pos (starEach [] X.env)) (backToKw pos (keywordEach [] X.env))) := by rfl) :
    PE X (.Call (.Attribute o m apos) [] [] pos) (tStat C sp E ta tNil) := by
  refine ⟨fun pins s σ H Q I h => PySem.W.methodCall_KW (pl := pl) (thn (he.run pins s σ H _ I h) fun u s1 ⟨x, H1, I1, rx, ex, q⟩ => ?_) ht⟩
  subst ex
  obtain rfl : u = Value.ref C := rx
  refine getmethst_ok I1 r c fun s2 I2 => ?_
  exact PySem.W.callWith_K0 I2.kIn c.kp (wpAny_call (run_fnR (us := []) F hr hx I2 .nil q))
/-- C.m(k = v, ..) -/
theorem pe_statK {pl : Sem Bool} {fd : FuncData} {ps ks : List Str} {gu : List Value → List Value → List Value} {gV : List V → List V → List V} (he : PE X o ta) (r : ClX.CRead X.K C mc) (c : CStat X.K C mc m p g) (F : FnOk X.prog X.w X.K X.mg X.base CX k g fd ps sp) (hr : Room k X.A)
    (hb : KBinds X.K fd ps ks gu gV) (hx : Passes CX X E) (hkw : PK X kws tk) (hall : (backToKw pos (keywordEach kws X.env)).all (·.1.isSome) = true := by rfl) (hks : (backToKw pos (keywordEach kws X.env)).filterMap (·.1) = ks := by rfl)
    (hpl : ((backTo pos (starEach [] X.env)).any (·.1) || (backToKw pos (keywordEach kws X.env)).any (·.1.isNone)) = false := by rfl)
    (ht : eval (.Call (.Attribute o m apos) [] kws pos) X.env = (do
      let ov ← eval o X.env
      standAt apos.atName
      let (f, first) ← holding [ov] (getMethod ov m pl)
      callWith pos f first (backTo pos (starEach [] X.env)) (backToKw pos (keywordEach kws X.env))) := by rfl) :
    PE X (.Call (.Attribute o m apos) [] kws pos) (tStat C (fun zs => sp (gV [] zs)) E ta tk) := by
  refine ⟨fun pins s σ H Q I h => PySem.W.methodCall_KW (pl := pl) (thn (he.run pins s σ H _ I h) fun u s1 ⟨x, H1, I1, rx, ex, q⟩ => ?_) ht⟩
  subst ex
  obtain rfl : u = Value.ref C := rx
  refine getmethst_ok I1 r c fun s2 I2 => ?_
  refine PySem.W.callWith_KW0 (h₀ := X.base) I.ok.mod.kin c.kp hall (thn (hkw.run pos pins s2 σ H1 _ I2 q) fun ws s3 ⟨zs, H2, I3, rz, q2⟩ => ⟨I3.kIn, ?_⟩) hpl
  rw [hks]
  exact run_fnk (us := []) F hr hb hx I3 .nil rz q2
end

/-! ### what an own class says of in, not in, ==, len, truth -/
section
variable {X : Cx} {CX : CXT} {k : Nat} {C f : Addr} {fd : FuncData} {ps : List Str} {sp : Sp} {E : XK}
/-- an instance as the walk knows it -/
theorem ins_at {pins : List (Addr × Obj)} {σ : L2.St} {H : Hp} {s : Shared} {a dx : Addr} {fs : List (Str × V)} (I : Inv X pins σ H s) (e : H a = some (.ins C dx fs)) : ∃ (o : Obj) (od : Option Obj), PySem.W.InstAt s.heap a o C od := by
  obtain ⟨mA, O, _, _, _, _⟩ := ins_get I.hok e
  obtain ⟨od, J, _⟩ := O.look
  exact ⟨_, _, J⟩
/-- x in a: the own __contains__ answers a truth -/
def rInO (C : Addr) (sp : Sp) (E : XK) : R2 := fun x y H Q => ∃ (a dx : Addr) (fs : List (Str × V)), y = .ref a ∧ H a = some (.ins C dx fs) ∧ sp [.ref a, x] H (fun v H' => ∃ b, v = .bl b ∧ Q (.bl b) H') E
def rNotInO (C : Addr) (sp : Sp) (E : XK) : R2 := fun x y H Q => ∃ (a dx : Addr) (fs : List (Str × V)), y = .ref a ∧ H a = some (.ins C dx fs) ∧ sp [.ref a, x] H (fun v H' => ∃ b, v = .bl b ∧ Q (.bl (!b)) H') E
theorem op_inO (F : FnOk X.prog X.w X.K X.mg X.base CX k f fd ps sp) (hr : Room k X.A) (hb : Binds X.K fd ps []) (hx : Passes CX X E) (hs : PySem.W.findIn X.K (.ref C) "__contains__" = some (some (.ref f))) (hf : PySem.W.isFn X.K (.ref f) = true) : OpR X (compareOp .In) (rInO C sp E) := by
  intro pins s σ H x y v u Q I rx ry h
  obtain ⟨a, dx, fs, rfl, ha, q⟩ := h
  obtain rfl : u = Value.ref a := ry
  obtain ⟨o, od, J⟩ := ins_at I ha
  obtain ⟨m, hF⟩ := I.fr
  refine PySem.W.in_K hF I.ok.mod.kin J hs hf (thn (run_fn (us := [.ref a, v]) (vs := [.ref a, x]) F hr hb .nil hx I (.cons rfl (.cons rx .nil)) q) fun r s1 z => ?_)
  obtain ⟨w, H1, I1, rw1, b, rfl, q1⟩ := z
  cases rw1
  exact wpAny_truthy_bool ⟨.bl b, H1, I1, rfl, q1⟩
theorem op_notInO (F : FnOk X.prog X.w X.K X.mg X.base CX k f fd ps sp) (hr : Room k X.A) (hb : Binds X.K fd ps []) (hx : Passes CX X E) (hs : PySem.W.findIn X.K (.ref C) "__contains__" = some (some (.ref f))) (hf : PySem.W.isFn X.K (.ref f) = true) : OpR X (compareOp .NotIn) (rNotInO C sp E) := by
  intro pins s σ H x y v u Q I rx ry h
  obtain ⟨a, dx, fs, rfl, ha, q⟩ := h
  obtain rfl : u = Value.ref a := ry
  obtain ⟨o, od, J⟩ := ins_at I ha
  obtain ⟨m, hF⟩ := I.fr
  refine PySem.W.notIn_K hF I.ok.mod.kin J hs hf (thn (run_fn (us := [.ref a, v]) (vs := [.ref a, x]) F hr hb .nil hx I (.cons rfl (.cons rx .nil)) q) fun r s1 z => ?_)
  obtain ⟨w, H1, I1, rw1, b, rfl, q1⟩ := z
  cases rw1
  exact wpAny_truthy_bool ⟨.bl (!b), H1, I1, rfl, q1⟩
/-- a == b, both instances of the class -/
def rEqO (C : Addr) (sp : Sp) (E : XK) : R2 := fun x y H Q => ∃ (a b dx dy : Addr) (fs gs : List (Str × V)), x = .ref a ∧ y = .ref b ∧ H a = some (.ins C dx fs) ∧ H b = some (.ins C dy gs) ∧ sp [.ref a, .ref b] H (fun v H' => ∃ b, v = .bl b ∧ Q (.bl b) H') E
theorem op_eqO (F : FnOk X.prog X.w X.K X.mg X.base CX k f fd ps sp) (hr : Room k X.A) (hb : Binds X.K fd ps []) (hx : Passes CX X E) (hs : PySem.W.findIn X.K (.ref C) "__eq__" = some (some (.ref f))) (hf : PySem.W.isFn X.K (.ref f) = true) : OpR X (compareOp .Eq) (rEqO C sp E) := by
  intro pins s σ H x y v u Q I rx ry h
  obtain ⟨a, b, dx, dy, fs, gs, rfl, rfl, ha, hb2, q⟩ := h
  obtain rfl : v = Value.ref a := rx
  obtain rfl : u = Value.ref b := ry
  obtain ⟨o, od, J⟩ := ins_at I ha
  obtain ⟨o2, od2, J2⟩ := ins_at I hb2
  obtain ⟨m, hF⟩ := I.fr
  show wpAny (model X.prog X.w) X.A (richCompare .Eq (.ref a) (.ref b)) (EP X pins σ Q) X.xe s
  refine PySem.W.cmp_K (op := .Eq) (tb := .ref C) hr.units0 hF I.ok.mod.kin J J2.type (by simp [PySem.W.notFirst]) hs hf (thn (run_fn (us := [.ref a, .ref b]) (vs := [.ref a, .ref b]) F hr hb .nil hx I (.cons rfl (.cons rfl .nil)) q) fun r s1 z => ?_)
  obtain ⟨w, H1, I1, rw1, c, rfl, q1⟩ := z
  cases rw1
  exact ⟨.bl c, H1, I1, rfl, q1⟩
/-- len(a) -/
def rLenO (C : Addr) (sp : Sp) (E : XK) : List V → Hp → VK → Prop := fun xs H Q => ∃ (a dx : Addr) (fs : List (Str × V)), xs = [.ref a] ∧ H a = some (.ins C dx fs) ∧ sp [.ref a] H (fun v H' => ∃ n : Int, v = .int n ∧ 0 ≤ n ∧ n < 2 ^ 63 ∧ Q (.int n) H') E
end
/-! ### len, !=, truth of an own class -/
section
variable {prog : Program} {w : World} {A : Around} {E : Value → Shared → Prop} {s : Shared} {K : PySem.W.Frag} {x C L f : Addr} {h₀ : Heap} {m : Str → Option Value} {ox : Obj} {od : Option Obj} {b tb : Value}
theorem neO_entry {Q : Fin → Shared → Prop} (hu : A.units < cLine) (X : K.In s.heap) (I : PySem.W.InstAt s.heap x ox C od) (hs : PySem.W.findIn K (.ref C) "__eq__" = some (some (.ref f))) (hf : PySem.W.isFn K (.ref f) = true)
    (hcall : wpAny (model prog w) A (call (.ref f) [.ref x, b]) (fun v s' => ∃ c, v = .bool c ∧ Q (.done (.ret (.bool (!c)))) s') E s) :
    wpAny (model prog w) A (Builtin.«object.__ne__» ⟨[.ref x, b], []⟩) Q E s := by
  unfold Builtin.«object.__ne__»
  repeat (first
    | with_reducible refine wpAny_cRoomFor hu ?_
    | (refine wpAny_bind (m := callSpecialIfBound? (.ref x) (Str.ofString "__eq__") [b])
        (PySem.W.ifBound_K X I hs hf (wpAny_mono hcall (fun r s' hr => by
          obtain ⟨c, rfl, hq⟩ := hr
          repeat (first | exact hq | exact wpAny_pure hq | exact wpAny_truthy_bool hq | (refine wpAny_bind (m := truthy (.bool _)) (wpAny_truthy_bool ?_)) | wp_step)) fun _ _ e => e)))
    | wp_step)
theorem ifBound_objNe {M : Model} {args : List Value} {Q : Option Value → Shared → Prop} (X : K.In s.heap) (I : PySem.W.InstAt s.heap x ox C od) (hs : PySem.W.findIn K (.ref C) "__ne__" = some (some (.builtin "object.__ne__")))
    (h : wpAny M A (call (.builtin "object.__ne__") (.ref x :: args)) (fun v => Q (some v)) E s) : wpAny M A (callSpecialIfBound? (.ref x) "__ne__" args) Q E s := by
  simp only [callSpecialIfBound?, bindSpecialIfBound?]
  refine wpAny_holding (wpAny_bind (wpAny_bind (wpAny_bind (I.type.here ((PySem.W.looks_findIn X hs).here ?_)))))
  refine wpAny_bind (wpAny_askSetting (wpAny_ite ?_))
  have fin : wpAny M A (call (.builtin "object.__ne__") ([.ref x] ++ args) >>= fun v => pure (some v)) Q E s := wpAny_bind (wpAny_mono h (fun v s' h' => wpAny_pure h') fun _ _ h' => h')
  split
  · exact wpAny_bind (wpAny_of_eq (F.cmp_object.ne.bind _) (wpAny_pure (by exact fin)))
  · exact wpAny_tryCatch (wpAny_bind (wpAny_of_eq (F.cmp_object.ne.bind _) (wpAny_pure (by exact fin))))
theorem ne_own {Q : Value → Shared → Prop} (hu : A.units + 1 < cLine) (F : PyProof.Rows.Fr h₀ L s.heap m) (X₀ : K.In h₀) (I : PySem.W.InstAt s.heap x ox C od) (hb : PySem.W.Looks (model prog w) s.heap (typeOf b) tb) (hn : PySem.W.notFirst K C tb = true)
    (hm : PySem.W.mroIn K C (.type "object") = some true) (he : PySem.W.findIn K (.ref C) "__ne__" = some (some (.builtin "object.__ne__")))
    (hs : PySem.W.findIn K (.ref C) "__eq__" = some (some (.ref f))) (hf : PySem.W.isFn K (.ref f) = true)
    (h : wpAny (model prog w) A.in1 (call (.ref f) [.ref x, b]) (fun v s' => ∃ c, v = .bool c ∧ Q (.bool (!c)) s') E s) : wpAny (model prog w) A (richCompare .NotEq (.ref x) b) Q E s := by
  have X := X₀.keeps F.keep
  have one : wpAny (model prog w) A (tryCompare (.ref x) (cmpInfo .NotEq).2.1 b) (fun r s' => ∃ v, r = some v ∧ Q v s') E s := by
    unfold tryCompare
    refine wpAny_bind (ifBound_objNe X I he (wpAny_call (codeAny_call_builtin PySem.F.cmp_object.ne.plain PySem.F.cmpEntry_ne (PySem.W.check_slot PySem.F.cmpKind_ne PySem.F.cmpSplit_ne (I.type.andThen (PySem.W.looks_mroIn X hm)) (PySem.F.cmpArgs_ne _ _)
      (neO_entry (A := A.in1) hu X I hs hf (wpAny_mono h (fun v s' hv => ?_) fun _ _ e => e))))))
    obtain ⟨c, rfl, hq⟩ := hv
    exact ⟨c, rfl, wpAny_pure ⟨_, rfl, hq⟩⟩
  unfold richCompare
  simp only [oneThing_ref]
  refine wpAny_holding (wpAny_bind (wpAny_cRoomFor (Nat.lt_of_succ_lt hu) ?_))
  refine wpAny_bind (I.type.here (wpAny_bind (hb.here ?_)))
  split
  · rename_i q
    have e : PySem.W.subIn K tb (.ref C) = some false := by
      rcases Bool.or_eq_true_iff.mp hn with e | e
      · rw [beq_iff_eq.mp e] at q; simp at q
      · exact beq_iff_eq.mp e
    refine wpAny_bind ((PySem.W.looks_subIn X e).here ?_)
    simp only [Bool.false_eq_true, if_false]
    refine wpAny_bind (wpAny_mono one (fun r s' z => ?_) fun _ _ e => e)
    obtain ⟨v, rfl, hq⟩ := z
    exact wpAny_pure hq
  · refine wpAny_bind (wpAny_pure ?_)
    simp only [Bool.false_eq_true, if_false]
    refine wpAny_bind (wpAny_mono one (fun r s' z => ?_) fun _ _ e => e)
    obtain ⟨v, rfl, hq⟩ := z
    exact wpAny_pure hq
end
section
variable {X : Cx} {CX : CXT} {k : Nat} {C f : Addr} {fd : FuncData} {ps : List Str} {sp : Sp} {E : XK}
/-- the callee runs deeper -/
theorem run_fnA {A' : Around} {pins : List (Addr × Obj)} {σ : L2.St} {H : Hp} {s : Shared} {Q : VK} {us : List Value} {vs : List V} (F : FnOk X.prog X.w X.K X.mg X.base CX k f fd ps sp) (hr : Room k A') (hA : ∀ {s : Shared} {H : Hp}, Env0 X.prog X.w X.K X.mg X.base X.A X.stack s H → Env0 X.prog X.w X.K X.mg X.base A' X.stack s H) (hb : Binds X.K fd ps []) (hx : Passes CX X E)
    (I : Inv X pins σ H s) (r : Vals vs us) (h : sp vs H Q E) : wpAny (model X.prog X.w) A' (call (.ref f) us) (EP X pins σ Q) X.xe s := by
  have hl : (us ++ []).length = ps.length := by rw [List.append_nil, ← r.length]; exact F.len _ _ _ _ h
  have hb' := hb s us I.kIn hl
  rw [List.append_nil] at hb'
  refine wpAny_call (codeAny_mono (F.run A' X.stack s H ⟨us, []⟩ us vs Q E hr (hA I.env0) hb' r h) fun r s' hq => ?_)
  cases r with
  | error e => exact hx pins σ H s e s' I hq
  | ok fl =>
    cases fl with
    | ret u => exact I.after hq
    | next => exact False.elim hq
    | brk => exact False.elim hq
    | cont => exact False.elim hq
theorem run_fn1 {pins : List (Addr × Obj)} {σ : L2.St} {H : Hp} {s : Shared} {Q : VK} {us : List Value} {vs : List V} (F : FnOk X.prog X.w X.K X.mg X.base CX k f fd ps sp) (hr : Room (k + 1) X.A) (hb : Binds X.K fd ps []) (hx : Passes CX X E)
    (I : Inv X pins σ H s) (r : Vals vs us) (h : sp vs H Q E) : wpAny (model X.prog X.w) X.A.in1 (call (.ref f) us) (EP X pins σ Q) X.xe s := run_fnA F hr.in1 (fun e => e.in1) hb hx I r h
theorem call_lenO (F : FnOk X.prog X.w X.K X.mg X.base CX k f fd ps sp) (hr : Room (k + 1) X.A) (hb : Binds X.K fd ps []) (hx : Passes CX X E) (hs : PySem.W.findIn X.K (.ref C) "__len__" = some (some (.ref f))) (hf : PySem.W.isFn X.K (.ref f) = true) : CallR X (.builtin "len") (rLenO C sp E) := by
  intro pins s σ H xs us Q I r h
  obtain ⟨a, dx, fs, rfl, ha, q⟩ := h
  obtain ⟨u, rfl, ru⟩ := vals1 r
  obtain rfl : u = Value.ref a := ru
  obtain ⟨o, od, J⟩ := ins_at I ha
  obtain ⟨m, hF⟩ := I.fr
  refine PySem.W.len_K hF I.ok.mod.kin J hs hf (thn (run_fn1 (us := [.ref a]) (vs := [.ref a]) F hr hb hx I (.cons rfl .nil) q) fun v s1 z => ?_)
  obtain ⟨w', H1, I1, rw1, n, rfl, h0, h1, q1⟩ := z
  obtain ⟨t, rfl⟩ := rw1
  exact ⟨⟨h0, h1⟩, .int n, H1, I1.tok _, ⟨_, rfl⟩, q1⟩
/-- a != b, both instances of the class, whose __eq__ is its own -/
def rNeO (C : Addr) (sp : Sp) (E : XK) : R2 := fun x y H Q => ∃ (a b dx dy : Addr) (fs gs : List (Str × V)), x = .ref a ∧ y = .ref b ∧ H a = some (.ins C dx fs) ∧ H b = some (.ins C dy gs) ∧ sp [.ref a, .ref b] H (fun v H' => ∃ b, v = .bl b ∧ Q (.bl (!b)) H') E
theorem op_neO (F : FnOk X.prog X.w X.K X.mg X.base CX k f fd ps sp) (hr : Room (k + 1) X.A) (hb : Binds X.K fd ps []) (hx : Passes CX X E) (hm : PySem.W.mroIn X.K C (.type "object") = some true) (he : PySem.W.findIn X.K (.ref C) "__ne__" = some (some (.builtin "object.__ne__")))
    (hs : PySem.W.findIn X.K (.ref C) "__eq__" = some (some (.ref f))) (hf : PySem.W.isFn X.K (.ref f) = true) : OpR X (compareOp .NotEq) (rNeO C sp E) := by
  intro pins s σ H x y v u Q I rx ry h
  obtain ⟨a, b, dx, dy, fs, gs, rfl, rfl, ha, hb2, q⟩ := h
  obtain rfl : v = Value.ref a := rx
  obtain rfl : u = Value.ref b := ry
  obtain ⟨o, od, J⟩ := ins_at I ha
  obtain ⟨o2, od2, J2⟩ := ins_at I hb2
  obtain ⟨m, hF⟩ := I.fr
  show wpAny (model X.prog X.w) X.A (richCompare .NotEq (.ref a) (.ref b)) (EP X pins σ Q) X.xe s
  have hu := hr.units
  refine ne_own (tb := .ref C) (by omega) hF I.ok.mod.kin J J2.type (by simp [PySem.W.notFirst]) hm he hs hf (thn (run_fn1 (us := [.ref a, .ref b]) (vs := [.ref a, .ref b]) F hr hb hx I (.cons rfl (.cons rfl .nil)) q) fun r s1 z => ?_)
  obtain ⟨w, H1, I1, rw1, c, rfl, q1⟩ := z
  cases rw1
  exact ⟨c, rfl, .bl (!c), H1, I1, rfl, q1⟩
/-- the truth of an instance with an own __len__ and no __bool__ -/
def rTruO (C : Addr) (sp : Sp) (E : XK) : V → Hp → (Bool → Hp → Prop) → Prop := fun x H Q => ∃ (a dx : Addr) (fs : List (Str × V)), x = .ref a ∧ H a = some (.ins C dx fs) ∧ sp [.ref a] H (fun v H' => ∃ n : Int, v = .int n ∧ 0 ≤ n ∧ n < 2 ^ 63 ∧ Q (n != 0) H') E
theorem tru_own {A : Around} {pins : List (Addr × Obj)} {σ : L2.St} {H : Hp} {s : Shared} {R : Bool → Shared → Prop} {a dx : Addr} {fs : List (Str × V)} (I : Inv X pins σ H s) (ha : H a = some (.ins C dx fs))
    (hn : PySem.W.findIn X.K (.ref C) "__bool__" = some none) (hs : PySem.W.findIn X.K (.ref C) "__len__" = some (some (.ref f))) (hf : PySem.W.isFn X.K (.ref f) = true)
    (h : wpAny (model X.prog X.w) A.in1 (call (.ref f) [.ref a]) (fun v s' => ∃ n t, v = .int n t ∧ 0 ≤ n ∧ n < 2 ^ 63 ∧ R (n != 0) { s' with toks := s'.toks + 1 }) X.xe s) : wpAny (model X.prog X.w) A (truthy (.ref a)) R X.xe s := by
  obtain ⟨o, od, J⟩ := ins_at I ha
  obtain ⟨m, hF⟩ := I.fr
  have XI := I.kIn
  unfold truthy
  refine wpAny_bind (m := callSpecial? (.ref a) (Str.ofString "__bool__")) (wpAny_bind (wpAny_bind (J.type.here ((PySem.W.looks_findIn XI hn).here (wpAny_pure ?_)))))
  refine wpAny_bind (wpAny_bind (J.type.here ((PySem.W.looks_findIn XI hs).here ?_)))
  show wpAny _ _ (if (some (Value.ref f)).isNone = true then _ else _) _ _ _
  rw [if_neg (by simp)]
  refine wpAny_bind (m := runValue (.builtin "len" ⟨[.ref a], []⟩)) (wpAny_runValue (codeAny_builtin PySem.entry_len ?_))
  unfold Builtin.«len»
  refine wpAny_bind (m := oneArg "len" _) (wpAny_pure ?_)
  refine wpAny_bind (m := callSpecial? (.ref a) (Str.ofString "__len__")) (PySem.W.special_fn XI J hs (beq_iff_eq.mp hf) (wpAny_mono h (fun r s' hr => ?_) fun _ _ y => y))
  obtain ⟨n, t, rfl, h0, h1, hq⟩ := hr
  refine wpAny_bind (wpAny_holding (wpAny_pure ?_))
  refine wpAny_bind (wpAny_letGo ?_)
  show wpAny _ _ (if n < 0 then _ else _) _ _ _
  rw [if_neg (by omega)]
  show wpAny _ _ (if n ≥ 2 ^ 63 then _ else _) _ _ _
  rw [if_neg (by omega)]
  exact wpAny_bind (wpAny_mkInt (wpAny_pure (wpAny_pure hq)))
theorem tru_lenO (F : FnOk X.prog X.w X.K X.mg X.base CX k f fd ps sp) (hr : Room (k + 1) X.A) (hb : Binds X.K fd ps []) (hx : Passes CX X E) (hn : PySem.W.findIn X.K (.ref C) "__bool__" = some none) (hs : PySem.W.findIn X.K (.ref C) "__len__" = some (some (.ref f)))
    (hf : PySem.W.isFn X.K (.ref f) = true) : TruR X (rTruO C sp E) := by
  intro pins s σ H x v Q I rx h
  obtain ⟨a, dx, fs, rfl, ha, q⟩ := h
  obtain rfl : v = Value.ref a := rx
  refine tru_own I ha hn hs hf (thn (run_fn1 (us := [.ref a]) (vs := [.ref a]) F hr hb hx I (.cons rfl .nil) q) fun r s1 z => ?_)
  obtain ⟨w', H1, I1, rw1, n, rfl, h0, h1, q1⟩ := z
  obtain ⟨t, rfl⟩ := rw1
  exact ⟨n, t, rfl, h0, h1, H1, I1.tok _, q1⟩
end
section
variable {prog : Program} {w : World} {A : Around} {E : Value → Shared → Prop} {s : Shared} {a : Addr}
theorem bool_own {R : Value → Shared → Prop} (h : ∀ A', A' = A.in1.in1 → wpAny (model prog w) A' (truthy (.ref a)) (fun b s' => R (.bool b) s') E s) : wpAny (model prog w) A (call (.type "bool") [.ref a]) R E s := by
  refine callType_codes (Q₁ := fun obj s₁ => s₁.TypeIs obj "bool" ∧ R obj s₁) PySem.F.called_bool (PySem.F.typeCall_bool_1 _) PySem.F.entry_object_init ?_ fun obj s₁ h₁ => ?_
  · refine codeAny_of_tree ?_
    show wpAny _ A.in1.in1 (do checkBuiltinCall "bool.__new__" ⟨[.type "bool", .ref a], []⟩; again (.builtin "bool.__new__" ⟨[.type "bool", .ref a], []⟩)) _ _ s
    refine wpAny_bind (wpAny_of_eq (PySem.F.newCall_bool_1 _) (wpAny_pure ⟨plainId_quiet (by decide +kernel) _, codeAny_builtin PySem.F.entry_bool_new ?_⟩))
    rw [Around.under_plainId (by decide +kernel) _]
    have f1 := PySem.F.conv_sub_bool
    obtain ⟨hp, g, d, tk, os⟩ := s
    repeat (any_goals (first | assumption | (with_reducible refine wpAny_mono (h _ ?_) (fun b s' z => ?_) fun _ _ z => z) | wp_step))
    · rfl
    · exact ⟨rfl, z⟩
  · exact ⟨h₁.1, PySem.F.args_object_init_2 obj _, object_init_meets PySem.F.called_bool.init.lookup PySem.F.called_bool.made (by decide) prog w A.in1 _ s₁ ⟨h₁.1, rfl, h₁.2⟩⟩
end
section
variable {X : Cx} {CX : CXT} {k : Nat} {C f : Addr} {fd : FuncData} {ps : List Str} {sp : Sp} {E : XK}
/-- bool(x) of an instance with an own __len__ -/
def rBoolO (C : Addr) (sp : Sp) (E : XK) : List V → Hp → VK → Prop := fun xs H Q => ∃ (a dx : Addr) (fs : List (Str × V)), xs = [.ref a] ∧ H a = some (.ins C dx fs) ∧ sp [.ref a] H (fun v H' => ∃ n : Int, v = .int n ∧ 0 ≤ n ∧ n < 2 ^ 63 ∧ Q (.bl (n != 0)) H') E
theorem call_boolO (F : FnOk X.prog X.w X.K X.mg X.base CX k f fd ps sp) (hr : Room (k + 3) X.A) (hb : Binds X.K fd ps []) (hx : Passes CX X E) (hn : PySem.W.findIn X.K (.ref C) "__bool__" = some none) (hs : PySem.W.findIn X.K (.ref C) "__len__" = some (some (.ref f)))
    (hf : PySem.W.isFn X.K (.ref f) = true) : CallR X (.type "bool") (rBoolO C sp E) := by
  intro pins s σ H xs us Q I r h
  obtain ⟨a, dx, fs, rfl, ha, q⟩ := h
  obtain ⟨u, rfl, ru⟩ := vals1 r
  obtain rfl : u = Value.ref a := ru
  refine bool_own fun A' e => ?_
  subst e
  refine tru_own I ha hn hs hf (thn (run_fnA (us := [.ref a]) (vs := [.ref a]) F hr.in1.in1.in1 (fun e => e.in1.in1.in1) hb hx I (.cons rfl .nil) q) fun r s1 z => ?_)
  obtain ⟨w', H1, I1, rw1, n, rfl, h0, h1, q1⟩ := z
  obtain ⟨t, rfl⟩ := rw1
  exact ⟨n, t, rfl, h0, h1, .bl (n != 0), H1, I1.tok _, rfl, q1⟩
/-- not x, by a truth that is told -/
theorem pe_notT {r : V → Hp → (Bool → Hp → Prop) → Prop} {a : Expr} {ta : TE} {pos : Pos} (hc : TruR X r) (ha : PE X a ta) : PE X (.UnaryOp .Not a pos) (fun σ H Q => ta σ H fun x H1 => r x H1 fun b H2 => Q (.bl (!b)) H2) := by
  refine ⟨fun pins s σ H Q I h => ?_⟩
  refine UnaryOp_ (thn (ha.run pins s σ H _ I h) fun v s1 ⟨x, H1, I1, r1, q1⟩ => ?_)
  exact not_of (thn (hc pins s1 σ H1 x v _ I1 r1 q1) fun b s2 ⟨H2, I2, q2⟩ => ⟨.bl (!b), H2, I2, rfl, q2⟩)
end
/-! ### iteration over an instance whose own __iter__ hands on the iterator of a tuple -/
/-- at it an iterator over the tuple at l, at its begin -/
def ItTO (l it : Addr) : HO := .ext fun h => h.IsTupleIter it l 0
section
variable {X : Cx}
/-- iter(t), t a tuple -/
def rIterT (K : PySem.W.Frag) (n : Nat) : List V → Hp → VK → Prop := fun xs H Q => ∃ (l : Addr) (zs : List V), xs = [.ref l] ∧ SqT K H l zs ∧ ∀ it, H it = Option.none → n ≤ it → Q (.ref it) (upd H it (ItTO l it))
theorem call_iterT : CallR X (.builtin "iter") (rIterT X.K X.s_0.heap.objs.size) := by
  intro pins s σ H xs us Q I r h
  obtain ⟨l, zs, rfl, hq, q⟩ := h
  obtain rfl := Vals.ref1 r
  obtain ⟨its, rv, pl, hz⟩ := I.tuple hq
  refine Calls.call_function_entry (by decide +kernel) (by decide +kernel) PySem.W.kdk_entry_iter (PySem.W.kdk_args_iter _) ?_
  unfold Builtin.«iter»
  refine wpAny_bind (m := someArgs "iter" 1 2 _) (wpAny_of_eq (a := [Value.ref l]) (by first | rfl | kernel_rfl!) ?_)
  show wpAny _ _ (pyIter (.ref l) >>= _) _ _ _
  refine wpAny_bind (wpAny_pyIter_tuple pl ?_)
  have st : (s.heap.push { cls := .type "tuple_iterator", data := .fields #[.ref l, .int 0 0] }).IsTupleIter s.heap.objs.size l 0 := ⟨_, Heap.get?_push_size _ rfl, rfl, rfl⟩
  exact wpAny_pure ⟨_, rfl, .ref s.heap.objs.size, _, I.laid (t' := s.toks) (o := ItTO l s.heap.objs.size) (fun b u e => Heap.get?_push_of_some _ e) (Nat.le_refl _) ⟨st, ⟨_, Heap.get?_push_size _ rfl⟩, fun h1 h2 q k => q.at fun o e => k o e⟩, rfl, q _ (I.hok.fresh (Nat.le_refl _)) I.sz⟩
/-- a def that is told of the room's size at its call -/
def FnN (P : Program) (w : World) (K : PySem.W.Frag) (mg : Str → Option Value) (base : Heap) (CX : CXT) (k : Nat) (f : Addr) (sp : Nat → Sp) : Prop :=
  ∀ (A : Around) (outer : List Env) (s : Shared) (H : Hp) (us : List Value) (vs : List V) (Q : VK) (E : XK), Room k A → Env0 P w K mg base A outer s H → Vals vs us → sp s.heap.objs.size vs H Q E →
    codeAny (model P w) A (.call (.ref f) { pos := us, kw := [] }) (CR CX outer P w H s Q E) s
theorem FnN.mk0 {P : Program} {w : World} {K : PySem.W.Frag} {mg : Str → Option Value} {base : Heap} {k : Nat} {x qual : Str} {st : Stmt} {f : Addr} {fd : FuncData} {N ps : List Str} {sp : Nat → Sp}
    (F : Fun K x qual st f fd) (S : FnScope N ps (defScope st)) (B : Binds K fd ps []) (len : ∀ n vs H Q E, sp n vs H Q E → vs.length = ps.length)
    (go : ∀ (cdv : Value) (A : Around) (outer : List Env) (s : Shared) (H : Hp) (vs : List V) (Q : VK) (E : XK), Room k (A.deeper (envOfC qual (defScope st) s.heap.objs.size f cdv)) → sp s.heap.objs.size vs H Q E →
      ∃ t, PSs (cxOf CX0 P w K mg base N qual (defScope st) f cdv A outer s H E).nox (defBody st) t ∧ t { nx := fun _ H1 => Q .non H1, rt := Q } (start N vs) H) : FnN P w K mg base CX0 (k + 1) f sp := by
  obtain ⟨oc, od, kV, doc, pm, an, cdv, ct, osl, e, lk, hcd⟩ := F.ex
  subst e
  intro A outer s H us vs Q E hr e0 rv hs
  have hl := len _ _ _ _ _ hs
  have hu : (us ++ []).length = ps.length := by rw [List.append_nil, ← hl]; exact rv.length.symm
  have b := B s us (e0.mod.kin.keeps fun b o z => (e0.bs b o z).1) hu
  rw [List.append_nil] at b
  exact LamX.run_ofS lk hcd S hr e0 b rv hl fun hr1 => by
    obtain ⟨t, ht, q⟩ := go cdv A outer s H vs Q E hr1 hs
    exact ⟨t, ht.nox, q⟩
variable {CX : CXT} {k : Nat} {C f : Addr} {sp : Nat → Sp} {E : XK} {tg iter : Expr} {te : TE}
def iOwnT (K : PySem.W.Frag) (C : Addr) (sp : Nat → Sp) (E : XK) (te : TE) : TI := fun σ H R => te σ H fun x H1 => ∃ (a dx : Addr) (fs : List (Str × V)), x = .ref a ∧ H1 a = some (.ins C dx fs) ∧
  ∀ n, sp n [.ref a] H1 (fun v H2 => ∃ it l, v = .ref it ∧ n ≤ it ∧ H2 it = some (ItTO l it) ∧ R (Itt K l) (ItX.dropH H2 it)) E
theorem pi_ownT (he : PE X iter te) (F : FnN X.prog X.w X.K X.mg X.base CX k f sp) (hr : Room k X.A) (hx : Passes CX X E) (hs : PySem.W.findIn X.K (.ref C) "__iter__" = some (some (.ref f))) (hf : PySem.W.isFn X.K (.ref f) = true) : PI X tg iter (iOwnT X.K C sp E te) := by
  refine ⟨fun pins s σ H R I h => ?_⟩
  refine thn (he.run pins s σ H _ I h) fun u s1 ⟨x, H1, I1, rx, a, dx, fs, ex, ha, q⟩ => ?_
  subst ex
  obtain rfl : u = Value.ref a := rx
  obtain ⟨o, od, J⟩ := ins_at I1 ha
  obtain ⟨m, hF⟩ := I1.fr
  refine PySem.W.owit_iter hF I1.ok.mod.kin J hs hf (wpAny_call (codeAny_mono (F X.A X.stack s1 H1 [.ref a] [.ref a] _ E hr I1.env0 (.cons rfl .nil) (q _)) fun r s' hq => ?_))
  cases r with
  | error e => exact hx pins σ H1 s1 e s' I1 hq
  | ok fl =>
    cases fl with
    | next => exact False.elim hq
    | brk => exact False.elim hq
    | cont => exact False.elim hq
    | ret u =>
      obtain ⟨v, H2, I2, rv, it, l, ev, hn, hi, qR⟩ := I1.after hq
      subst ev
      obtain rfl : u = Value.ref it := rv
      have st : s'.heap.IsTupleIter it l 0 := (I2.hok it _ hi).1
      show PySem.W.OwitIt _ _ _ _ _ _
      unfold PySem.W.OwitIt specialOf
      refine wpAny_bind (wpAny_typeOf st.typeIs ?_)
      refine wpAny_of_eq PySem.F.slot_tuple_iterator_next.lookup ?_
      have hi' := hi
      unfold ItTO at hi'
      refine ⟨it, [it], _, _, ItX.dropH H2 it, rfl, ItX.inv_drop I2 hi', turn_tuple l it, st, fun b hb => ?_, qR⟩
      have e : b = it := by simpa using hb
      rw [e]
      exact ItX.inv_fp I2 hi (Nat.le_trans I1.sz hn)
theorem sqT_drop {K : PySem.W.Frag} {H : Hp} {a it : Addr} {xs : List V} (h : SqT K H a xs) (n : it ≠ a) : SqT K (ItX.dropH H it) a xs := by
  have e : ItX.dropH H it a = H a := ItX.dropH_ne (Ne.symm n)
  unfold SqT Rd at h ⊢
  simp only [e]
  exact h
end


end
/-- what the top has written -/
structure Txt (K : PySem.W.Frag) (mg : Str → Option Value) where
  a_is_whole : Addr
  fd_is_whole : FuncData
  F_is_whole : Fun K "is_whole" "is_whole" s_is_whole a_is_whole fd_is_whole
  m_is_whole : mg "is_whole" = some (.ref a_is_whole)
  a_is_from : Addr
  fd_is_from : FuncData
  F_is_from : Fun K "is_from" "is_from" s_is_from a_is_from fd_is_from
  m_is_from : mg "is_from" = some (.ref a_is_from)
  a_is_between : Addr
  fd_is_between : FuncData
  F_is_between : Fun K "is_between" "is_between" s_is_between a_is_between fd_is_between
  m_is_between : mg "is_between" = some (.ref a_is_between)
  a_need_from : Addr
  fd_need_from : FuncData
  F_need_from : Fun K "need_from" "need_from" s_need_from a_need_from fd_need_from
  m_need_from : mg "need_from" = some (.ref a_need_from)
  a_is_period : Addr
  fd_is_period : FuncData
  F_is_period : Fun K "is_period" "is_period" s_is_period a_is_period fd_is_period
  m_is_period : mg "is_period" = some (.ref a_is_period)
  a_need_items : Addr
  fd_need_items : FuncData
  F_need_items : Fun K "need_items" "need_items" s_need_items a_need_items fd_need_items
  m_need_items : mg "need_items" = some (.ref a_need_items)
  a_narrowest : Addr
  fd_narrowest : FuncData
  F_narrowest : Fun K "narrowest" "narrowest" s_narrowest a_narrowest fd_narrowest
  m_narrowest : mg "narrowest" = some (.ref a_narrowest)
  a_stretch_of : Addr
  fd_stretch_of : FuncData
  F_stretch_of : Fun K "stretch_of" "stretch_of" s_stretch_of a_stretch_of fd_stretch_of
  m_stretch_of : mg "stretch_of" = some (.ref a_stretch_of)
  a_is_pair : Addr
  fd_is_pair : FuncData
  F_is_pair : Fun K "is_pair" "is_pair" s_is_pair a_is_pair fd_is_pair
  m_is_pair : mg "is_pair" = some (.ref a_is_pair)
  a_is_entry : Addr
  fd_is_entry : FuncData
  F_is_entry : Fun K "is_entry" "is_entry" s_is_entry a_is_entry fd_is_entry
  m_is_entry : mg "is_entry" = some (.ref a_is_entry)
  a_need_entries : Addr
  fd_need_entries : FuncData
  F_need_entries : Fun K "need_entries" "need_entries" s_need_entries a_need_entries fd_need_entries
  m_need_entries : mg "need_entries" = some (.ref a_need_entries)
  a_offsets_at : Addr
  fd_offsets_at : FuncData
  F_offsets_at : Fun K "offsets_at" "offsets_at" s_offsets_at a_offsets_at fd_offsets_at
  m_offsets_at : mg "offsets_at" = some (.ref a_offsets_at)
  a_are_periods : Addr
  fd_are_periods : FuncData
  F_are_periods : Fun K "are_periods" "are_periods" s_are_periods a_are_periods fd_are_periods
  m_are_periods : mg "are_periods" = some (.ref a_are_periods)
  a_plays : Addr
  fd_plays : FuncData
  F_plays : Fun K "plays" "plays" s_plays a_plays fd_plays
  m_plays : mg "plays" = some (.ref a_plays)
  a_pen : Addr
  fd_pen : FuncData
  F_pen : Fun K "_law_pen" "_law_pen" s_pen a_pen fd_pen
  m_pen : mg "_law_pen" = some (.ref a_pen)
  a_draw : Addr
  fd_draw : FuncData
  F_draw : Fun K "_law_draw" "_law_draw" s_draw a_draw fd_draw
  m_draw : mg "_law_draw" = some (.ref a_draw)
  a_pick : Addr
  fd_pick : FuncData
  F_pick : Fun K "_law_pick" "_law_pick" s_pick a_pick fd_pick
  m_pick : mg "_law_pick" = some (.ref a_pick)
  a_wheels : Addr
  fd_wheels : FuncData
  F_wheels : Fun K "_law_wheels" "_law_wheels" s_wheels a_wheels fd_wheels
  m_wheels : mg "_law_wheels" = some (.ref a_wheels)
  a_entries : Addr
  fd_entries : FuncData
  F_entries : Fun K "_law_entries" "_law_entries" s_entries a_entries fd_entries
  m_entries : mg "_law_entries" = some (.ref a_entries)
  a_least : Addr
  fd_least : FuncData
  F_least : Fun K "_law_least" "_law_least" s_least a_least fd_least
  m_least : mg "_law_least" = some (.ref a_least)
  a_due : Addr
  fd_due : FuncData
  F_due : Fun K "_law_due" "_law_due" s_due a_due fd_due
  m_due : mg "_law_due" = some (.ref a_due)
  a_right : Addr
  fd_right : FuncData
  F_right : Fun K "_law_right" "_law_right" s_right a_right fd_right
  m_right : mg "_law_right" = some (.ref a_right)
  a_law : Addr
  fd_law : FuncData
  F_law : Fun K "law" "law" s_law a_law fd_law
  m_law : mg "law" = some (.ref a_law)
  a_Stretch_init : Addr
  fd_Stretch_init : FuncData
  F_Stretch_init : Fun K "__init__" "Stretch.__init__" s_Stretch_init a_Stretch_init fd_Stretch_init
  a_Stretch_eq : Addr
  fd_Stretch_eq : FuncData
  F_Stretch_eq : Fun K "__eq__" "Stretch.__eq__" s_Stretch_eq a_Stretch_eq fd_Stretch_eq
  n_ValueError : mg "ValueError" = none
  n_abs : mg "abs" = none
  n_all : mg "all" = none
  n_bool : mg "bool" = none
  n_enumerate : mg "enumerate" = none
  n_int : mg "int" = none
  n_isinstance : mg "isinstance" = none
  n_len : mg "len" = none
  n_list : mg "list" = none
  n_min : mg "min" = none
  n_range : mg "range" = none
  n_repr : mg "repr" = none
  n_sorted : mg "sorted" = none
  n_tuple : mg "tuple" = none
  n_zip : mg "zip" = none
  u_MP : Value
  m_MP : mg "MOST_PERIOD" = some u_MP
  r_MP : RelV (.int 1000000000000) u_MP
  u_MI : Value
  m_MI : mg "MOST_ITEMS" = some u_MI
  r_MI : RelV (.int 60) u_MI
  a_Stretch : Addr
  m_Stretch : mg "Stretch" = some (.ref a_Stretch)
  cls : Cls K a_Stretch
  mks : Mk K a_Stretch a_Stretch_init
  ki : ∀ (H : Hp) (a dx : Addr) (fs : List (Str × V)), H a = some (.ins a_Stretch dx fs) → TyX K H (.ref a) (.ref a_Stretch)
  kk : PySem.W.kitOne K (.ref a_Stretch) (.ref a_Stretch) = some true
  na : ∀ y ∈ (["begin", "width", "left"] : List Str), NoAttr K a_Stretch y
  fi_eq : PySem.W.findIn K (.ref a_Stretch) "__eq__" = some (some (.ref a_Stretch_eq))
  fi_ne : PySem.W.findIn K (.ref a_Stretch) "__ne__" = some (some (.builtin "object.__ne__"))
  fi_bool : PySem.W.findIn K (.ref a_Stretch) "__bool__" = some Option.none
  fi_len : PySem.W.findIn K (.ref a_Stretch) "__len__" = some Option.none
  mro_o : PySem.W.mroIn K a_Stretch (.type "object") = some true
  fn_eq : PySem.W.isFn K (.ref a_Stretch_eq) = true
  u_BV : Value
  m_BV : mg "BEYOND_VALUES" = some u_BV
  r_BV : RelV (.int 1000000000000000000000000000000) u_BV
  u_MW : Value
  m_MW : mg "MOST_WHEELS" = some u_MW
  r_MW : RelV (.int 8) u_MW
section
variable {P : Program} {w : World} {K : PySem.W.Frag} {mg : Str → Option Value} {base : Heap}
theorem b_is_whole (T : Txt K mg) : Binds K T.fd_is_whole ["value"] [] := T.F_is_whole.binds (ps := ["value"]) fun _ _ _ _ _ _ us hl => match us, hl with | [_], _ => rfl
theorem b_is_from (T : Txt K mg) : Binds K T.fd_is_from ["value", "low"] [] := T.F_is_from.binds (ps := ["value", "low"]) fun _ _ _ _ _ _ us hl => match us, hl with | [_, _], _ => rfl
theorem b_is_between (T : Txt K mg) : Binds K T.fd_is_between ["value", "low", "high"] [] := T.F_is_between.binds (ps := ["value", "low", "high"]) fun _ _ _ _ _ _ us hl => match us, hl with | [_, _, _], _ => rfl
theorem b_need_from (T : Txt K mg) : Binds K T.fd_need_from ["value", "low"] [] := T.F_need_from.binds (ps := ["value", "low"]) fun _ _ _ _ _ _ us hl => match us, hl with | [_, _], _ => rfl
theorem b_is_period (T : Txt K mg) : Binds K T.fd_is_period ["value"] [] := T.F_is_period.binds (ps := ["value"]) fun _ _ _ _ _ _ us hl => match us, hl with | [_], _ => rfl
theorem b_need_items (T : Txt K mg) : Binds K T.fd_need_items ["value"] [] := T.F_need_items.binds (ps := ["value"]) fun _ _ _ _ _ _ us hl => match us, hl with | [_], _ => rfl
theorem b_narrowest (T : Txt K mg) : Binds K T.fd_narrowest ["period", "offsets", "skip"] [] := T.F_narrowest.binds (ps := ["period", "offsets", "skip"]) fun _ _ _ _ _ _ us hl => match us, hl with | [_, _, _], _ => rfl
theorem b_stretch_of (T : Txt K mg) : Binds K T.fd_stretch_of ["period", "indexed", "skip"] [] := T.F_stretch_of.binds (ps := ["period", "indexed", "skip"]) fun _ _ _ _ _ _ us hl => match us, hl with | [_, _, _], _ => rfl
theorem b_is_pair (T : Txt K mg) : Binds K T.fd_is_pair ["value"] [] := T.F_is_pair.binds (ps := ["value"]) fun _ _ _ _ _ _ us hl => match us, hl with | [_], _ => rfl
theorem b_is_entry (T : Txt K mg) : Binds K T.fd_is_entry ["value", "periods"] [] := T.F_is_entry.binds (ps := ["value", "periods"]) fun _ _ _ _ _ _ us hl => match us, hl with | [_, _], _ => rfl
theorem b_need_entries (T : Txt K mg) : Binds K T.fd_need_entries ["entries", "periods"] [] := T.F_need_entries.binds (ps := ["entries", "periods"]) fun _ _ _ _ _ _ us hl => match us, hl with | [_, _], _ => rfl
theorem b_offsets_at (T : Txt K mg) : Binds K T.fd_offsets_at ["entries", "place", "period"] [] := T.F_offsets_at.binds (ps := ["entries", "place", "period"]) fun _ _ _ _ _ _ us hl => match us, hl with | [_, _, _], _ => rfl
theorem b_are_periods (T : Txt K mg) : Binds K T.fd_are_periods ["value"] [] := T.F_are_periods.binds (ps := ["value"]) fun _ _ _ _ _ _ us hl => match us, hl with | [_], _ => rfl
theorem b_plays (T : Txt K mg) : Binds K T.fd_plays ["periods", "entries", "skip"] [] := T.F_plays.binds (ps := ["periods", "entries", "skip"]) fun _ _ _ _ _ _ us hl => match us, hl with | [_, _, _], _ => rfl
theorem b_pen (T : Txt K mg) : Binds K T.fd_pen ["_law_script"] [] := T.F_pen.binds (ps := ["_law_script"]) fun _ _ _ _ _ _ us hl => match us, hl with | [_], _ => rfl
theorem b_draw (T : Txt K mg) : Binds K T.fd_draw ["_law_pen_here", "_law_many"] [] := T.F_draw.binds (ps := ["_law_pen_here", "_law_many"]) fun _ _ _ _ _ _ us hl => match us, hl with | [_, _], _ => rfl
theorem b_pick (T : Txt K mg) : Binds K T.fd_pick ["_law_pen_here", "_law_some"] [] := T.F_pick.binds (ps := ["_law_pen_here", "_law_some"]) fun _ _ _ _ _ _ us hl => match us, hl with | [_, _], _ => rfl
theorem b_wheels (T : Txt K mg) : Binds K T.fd_wheels ["_law_pen_here", "_law_most"] [] := T.F_wheels.binds (ps := ["_law_pen_here", "_law_most"]) fun _ _ _ _ _ _ us hl => match us, hl with | [_, _], _ => rfl
theorem b_entries (T : Txt K mg) : Binds K T.fd_entries ["_law_pen_here", "_law_plains", "_law_most"] [] := T.F_entries.binds (ps := ["_law_pen_here", "_law_plains", "_law_most"]) fun _ _ _ _ _ _ us hl => match us, hl with | [_, _, _], _ => rfl
theorem b_least (T : Txt K mg) : Binds K T.fd_least ["_law_period", "_law_offsets", "_law_skip"] [] := T.F_least.binds (ps := ["_law_period", "_law_offsets", "_law_skip"]) fun _ _ _ _ _ _ us hl => match us, hl with | [_, _, _], _ => rfl
theorem b_due (T : Txt K mg) : Binds K T.fd_due ["_law_plain", "_law_entries_here", "_law_place", "_law_skip"] [] := T.F_due.binds (ps := ["_law_plain", "_law_entries_here", "_law_place", "_law_skip"]) fun _ _ _ _ _ _ us hl => match us, hl with | [_, _, _, _], _ => rfl
theorem b_right (T : Txt K mg) : Binds K T.fd_right ["_law_pen_here"] [] := T.F_right.binds (ps := ["_law_pen_here"]) fun _ _ _ _ _ _ us hl => match us, hl with | [_], _ => rfl
theorem b_law (T : Txt K mg) : Binds K T.fd_law ["_law_script"] [] := T.F_law.binds (ps := ["_law_script"]) fun _ _ _ _ _ _ us hl => match us, hl with | [_], _ => rfl
theorem b_Stretch_init (T : Txt K mg) : Binds K T.fd_Stretch_init ["self", "begin", "width", "left"] [] := T.F_Stretch_init.binds (ps := ["self", "begin", "width", "left"]) fun _ _ _ _ _ _ us hl => match us, hl with | [_, _, _, _], _ => rfl
theorem b_Stretch_eq (T : Txt K mg) : Binds K T.fd_Stretch_eq ["self", "other"] [] := T.F_Stretch_eq.binds (ps := ["self", "other"]) fun _ _ _ _ _ _ us hl => match us, hl with | [_, _], _ => rfl

def spWhole : Sp := fun vs H Q _ => ∃ (v : V) (t : String), vs = [v] ∧ NT H v t ∧ Q (.bl (t == "int")) H
theorem ok_is_whole (T : Txt K mg) : FnOk P w K mg base CX0 1 T.a_is_whole T.fd_is_whole ["value"] spWhole := by
  refine T.F_is_whole.ok sc_is_whole (fun vs H Q E h => ?_) (fun cdv A outer s H vs Q E hr h => ?_)
  · obtain ⟨v, t, rfl, _⟩ := h; rfl
  · obtain ⟨v, t, rfl, ht, k⟩ := h
    obtain ⟨b1, b2, h1, h2, h3⟩ := ht.kit
    refine ⟨_, pss_one (ps_ret (pe_and (pe_callB call_isi (by rfl) T.n_isinstance (by decide +kernel) (pa_cons (pv 0) (pa_cons (pe_bltn (v := .ty "int") (u := .type "int") (by rfl) T.n_int (by decide +kernel) rfl) (pa_nil)))) (pe_one (pe_not (pe_callB call_isi (by rfl) T.n_isinstance (by decide +kernel) (pa_cons (pv 0) (pa_cons (pe_bltn (v := .ty "bool") (u := .type "bool") (by rfl) T.n_bool (by decide +kernel) rfl) (pa_nil)))))))), ?_⟩
    refine ⟨_, rfl, v, .ty "int", .type t, .type "int", b1, rfl, .ty _, ht.ty, kit_ty h1, b1, rfl, ?_⟩
    rw [← h3] at k
    cases b1 with
    | false => exact iteF k
    | true => exact iteT ⟨_, rfl, v, .ty "bool", .type t, .type "bool", b2, rfl, .ty _, ht.ty, kit_ty h2, b2, rfl, k⟩
/-- whether v is an integer from l on -/
def fromB (l : Int) : V → Bool
  | .int i => decide (l ≤ i)
  | _ => false
def spFrom : Sp := fun vs H Q _ => ∃ (v : V) (t : String) (l : Int), vs = [v, .int l] ∧ NT H v t ∧ Q (.bl (fromB l v)) H
theorem fromB_no {H : Hp} {v : V} {t : String} {l : Int} (h : NT H v t) (n : (t == "int") = false) : fromB l v = false := by
  cases h <;> first | rfl | cases n
theorem ok_is_from (T : Txt K mg) : FnOk P w K mg base CX0 2 T.a_is_from T.fd_is_from ["value", "low"] spFrom := by
  refine T.F_is_from.ok sc_is_from (fun vs H Q E h => ?_) (fun cdv A outer s H vs Q E hr h => ?_)
  · obtain ⟨v, t, l, rfl, _⟩ := h; rfl
  · obtain ⟨v, t, l, rfl, ht, k⟩ := h
    refine ⟨_, pss_one (ps_ret (pe_and (pe_call (ok_is_whole T) (hr.mono (by decide)) rfl T.m_is_whole T.F_is_whole.kp (b_is_whole T) .nil pass0 (pa_cons (pv 0) (pa_nil))) (pe_one (pe_cmpR op_ge (pv 0) (pv 1) (nomark _))))), ?_⟩
    refine ⟨_, rfl, v, t, rfl, ht, (t == "int"), rfl, ?_⟩
    cases e : (t == "int") with
    | false => rw [fromB_no ht e] at k; exact iteF k
    | true =>
      obtain ⟨i, rfl⟩ := ht.isInt (beq_iff_eq.mp e)
      exact iteT ⟨_, rfl, _, rfl, _, _, rfl, rfl, k⟩

theorem ix_two {X : Cx} : IxR X (fun x y H Q => rIxL X.K x y H Q ∨ rIxT X.K x y H Q) := by
  intro va sl pins s σ H x y v u Q I rx ry h e
  rcases h with h | h
  · exact ix_list va sl pins s σ H x y v u Q I rx ry h e
  · exact ix_tup va sl pins s σ H x y v u Q I rx ry h e
theorem ix_two2 {X : Cx} (K : PySem.W.Frag) (hK : X.K = K) : IxR X (fun x y H Q => rIxL K x y H Q ∨ rIxT K x y H Q) := by
  subst hK
  exact ix_two
theorem ix_mv {H : Hp} {a : Addr} {xs : List V} {i : Int} {v : V} {Q : VK} (hS : SqL K H a xs ∨ SqT K H a xs) (h : atI xs i = some v) (q : Q v H) : rIxL K (.ref a) (.int i) H Q ∨ rIxT K (.ref a) (.int i) H Q := by
  rcases hS with hS | hS
  · exact .inl ⟨a, xs, i, v, rfl, rfl, hS, h, q⟩
  · exact .inr ⟨a, xs, i, v, rfl, rfl, hS, h, q⟩

def spBetween : Sp := fun vs H Q _ => ∃ v lo hi : Int, vs = [.int v, .int lo, .int hi] ∧ Q (.bl (decide (lo ≤ v ∧ v ≤ hi))) H
theorem ok_is_between (T : Txt K mg) : FnOk P w K mg base CX0 2 T.a_is_between T.fd_is_between ["value", "low", "high"] spBetween := by
  refine T.F_is_between.ok sc_is_between (fun vs H Q E h => ?_) (fun cdv A outer s H vs Q E hr h => ?_)
  · obtain ⟨v, lo, hi, rfl, _⟩ := h; rfl
  · obtain ⟨v, lo, hi, rfl, k⟩ := h
    refine ⟨_, pss_one (ps_ret (pe_and (pe_call (ok_is_whole T) (hr.mono (by decide)) rfl T.m_is_whole T.F_is_whole.kp (b_is_whole T) .nil pass0 (pa_cons (pv 0) (pa_nil))) (pe_one (pe_chain op_le op_le (pv 1) (pv 0) (pv 2))))), ?_⟩
    refine ⟨_, rfl, .int v, "int", rfl, .int v, true, rfl, iteT ?_⟩
    refine ⟨_, rfl, _, rfl, _, _, rfl, rfl, _, rfl, ?_⟩
    refine ite2 (fun hc => ?_) (fun hc => ?_)
    · have hc := of_decide_eq_true hc
      refine ⟨_, rfl, _, _, rfl, rfl, ?_⟩
      refine Eq.mpr (congrArg (fun b => Q (V.bl b) _) ?_) k
      rw [decide_eq_decide]
      exact ⟨fun z => ⟨hc, z⟩, fun z => z.2⟩
    · have hc : ¬ lo ≤ v := fun z => hc (decide_eq_true z)
      refine Eq.mpr (congrArg (fun b => Q (V.bl b) _) ?_) k
      exact (decide_eq_false fun z => hc z.1).symm
theorem ok_need_from (T : Txt K mg) : FnOk P w K mg base CX0 3 T.a_need_from T.fd_need_from ["value", "low"] (fun vs H Q _ => ∃ v lo : Int, vs = [.int v, .int lo] ∧ lo ≤ v ∧ Q .non H) := by
  refine T.F_need_from.ok sc_need_from (fun vs H Q E h => ?_) (fun cdv A outer s H vs Q E hr h => ?_)
  · obtain ⟨v, lo, rfl, _⟩ := h; rfl
  · obtain ⟨v, lo, rfl, h0, k⟩ := h
    refine ⟨_, pss_one (ps_if (pt_not (pt_val (pe_call (ok_is_from T) (hr.mono (by decide)) rfl T.m_is_from T.F_is_from.kp (b_is_from T) .nil pass0 (pa_cons (pv 0) (pa_cons (pv 1) (pa_nil)))))) (pss_one (ps_never)) (pss_nil)), ?_⟩
    refine ⟨_, rfl, _, rfl, .int v, "int", lo, rfl, .int v, true, (by show V.bl (decide (lo ≤ v)) = V.bl true; rw [decide_eq_true h0]), iteF k⟩
theorem ok_is_period (T : Txt K mg) : FnOk P w K mg base CX0 3 T.a_is_period T.fd_is_period ["value"] (fun vs H Q _ => ∃ v : Int, vs = [.int v] ∧ 2 ≤ v ∧ v ≤ 1000000000000 ∧ Q (.bl true) H) := by
  refine T.F_is_period.ok sc_is_period (fun vs H Q E h => ?_) (fun cdv A outer s H vs Q E hr h => ?_)
  · obtain ⟨v, rfl, _⟩ := h; rfl
  · obtain ⟨v, rfl, h0, h1, k⟩ := h
    refine ⟨_, pss_one (ps_ret (pe_call (ok_is_between T) (hr.mono (by decide)) rfl T.m_is_between T.F_is_between.kp (b_is_between T) .nil pass0 (pa_cons (pv 0) (pa_cons (pe_int) (pa_cons (pe_glob (v := .int 1000000000000) rfl T.m_MP T.r_MP) (pa_nil)))))), ?_⟩
    refine ⟨_, rfl, v, 2, 1000000000000, rfl, ?_⟩
    rw [decide_eq_true ⟨h0, h1⟩]
    exact k
theorem kitA1 {K : PySem.W.Frag} {t u : Value} {us : List Value} (h : PySem.W.kitOne K t u = some true) : PySem.W.kitAny K t (u :: us) = some true := by
  unfold PySem.W.kitAny
  rw [h]
theorem kitA2 {K : PySem.W.Frag} {t u w : Value} {us : List Value} (h : PySem.W.kitOne K t u = some false) (h2 : PySem.W.kitOne K t w = some true) : PySem.W.kitAny K t (u :: w :: us) = some true := by
  unfold PySem.W.kitAny
  rw [h]
  exact kitA1 h2
theorem ok_need_items (T : Txt K mg) : FnOk P w K mg base CX0 1 T.a_need_items T.fd_need_items ["value"] (fun vs H Q _ => ∃ (a : Addr) (xs : List V), vs = [.ref a] ∧ (H a = some (.lst xs) ∨ H a = some (.tup xs)) ∧ xs.length ≤ 60 ∧ ∀ H', Same H H' → Q .non H') := by
  refine T.F_need_items.ok sc_need_items (fun vs H Q E h => ?_) (fun cdv A outer s H vs Q E hr h => ?_)
  · obtain ⟨a, xs, rfl, _⟩ := h; rfl
  · obtain ⟨a, xs, rfl, hS, hl, k⟩ := h
    refine ⟨_, pss_one (ps_if (PW.pt (pw_or (pt_not (pt_val (pe_callB call_isiT (by rfl) T.n_isinstance (by decide +kernel) (pa_cons (pv 0) (pa_cons (pe_tup (pa_cons (pe_bltn (v := .ty "list") (u := .type "list") (by rfl) T.n_list (by decide +kernel) rfl) (pa_cons (pe_bltn (v := .ty "tuple") (u := .type "tuple") (by rfl) T.n_tuple (by decide +kernel) rfl) (pa_nil)))) (pa_nil)))))) (pw_or1 (pt_cmpR op_gt (pe_callB call_len_seq (by rfl) T.n_len (by decide +kernel) (pa_cons (pv 0) (pa_nil))) (pe_glob (v := .int 60) rfl T.m_MI T.r_MI) (nomark _))))) (pss_one (ps_never)) (pss_nil)), ?_⟩
    refine ⟨_, rfl, (by show 2 ≤ sizeLine; decide), fun c kc => ?_⟩
    have s1 := same_new (o := .tup [.ty "list", .ty "tuple"]) kc
    rcases hS with hS | hS
    · refine ⟨.ref a, c, _, .type "list", [.type "list", .type "tuple"], true, rfl, upd_same, .cons (.ty _) (.cons (.ty _) .nil), .base (.lst (s1 _ _ hS)), kitA1 (kit_ty (by decide +kernel)), true, rfl, ?_⟩
      refine ⟨_, rfl, a, xs, rfl, .inl (SqL.of (s1 _ _ hS)), _, _, rfl, rfl, false, (congrArg V.bl (decide_eq_false (by omega))), iteF ?_⟩
      exact k _ s1
    · refine ⟨.ref a, c, _, .type "tuple", [.type "list", .type "tuple"], true, rfl, upd_same, .cons (.ty _) (.cons (.ty _) .nil), .base (.tup (s1 _ _ hS)), kitA2 (kit_ty (by decide +kernel)) (kit_ty (by decide +kernel)), true, rfl, ?_⟩
      refine ⟨_, rfl, a, xs, rfl, .inr (SqT.of (s1 _ _ hS)), _, _, rfl, rfl, false, (congrArg V.bl (decide_eq_false (by omega))), iteF ?_⟩
      exact k _ s1
theorem sqL_same {K : PySem.W.Frag} {H H' : Hp} {a : Addr} {xs : List V} (s : Same H H') (h : SqL K H a xs) : SqL K H' a xs := by
  rcases h with (h | ⟨o, h⟩) | h
  · exact .inl (.inl (s _ _ h))
  · exact .inl (.inr ⟨o, s _ _ h⟩)
  · exact .inr h
theorem sqT_same {K : PySem.W.Frag} {H H' : Hp} {a : Addr} {xs : List V} (s : Same H H') (h : SqT K H a xs) : SqT K H' a xs := by
  rcases h with (h | ⟨o, h⟩) | h
  · exact .inl (.inl (s _ _ h))
  · exact .inl (.inr ⟨o, s _ _ h⟩)
  · exact .inr h
def prAt (p : Int) (rows : List Int) (kk j : Nat) : Int × Int := ((NM.dbl p rows).getD (j + kk - 1) 0 - rows.getD j 0, rows.getD j 0)
theorem same_up {H H' : Hp} {D : Addr} {o : HO} (s : Same H H') (n : H D = Option.none) : Same H (upd H' D o) := fun b ob e => by rw [upd_ne (ne_of_none e n)]; exact s b ob e
theorem PrsAt.snoc {H H' : Hp} {ts : List Addr} {qs : List (Int × Int)} {c : Addr} {q : Int × Int} (h : PrsAt H ts qs) (s : ∀ b zs, H b = some (.tup zs) → H' b = some (.tup zs)) (hc : H' c = some (.tup [.int q.1, .int q.2])) : PrsAt H' (ts ++ [c]) (qs ++ [q]) := by
  refine ⟨by rw [List.length_append, List.length_append, h.1]; rfl, fun i t q' h1 h2 => ?_⟩
  by_cases hi : i < ts.length
  · rw [List.getElem?_append_left hi] at h1
    rw [List.getElem?_append_left (by rw [← h.1]; exact hi)] at h2
    exact s _ _ (h.2 i t q' h1 h2)
  · rw [List.getElem?_append_right (by omega)] at h1
    rw [List.getElem?_append_right (by rw [← h.1]; omega)] at h2
    have l1 := (List.getElem?_eq_some_iff.mp h1).1
    rw [List.length_singleton] at l1
    have e1 : i - ts.length = 0 := by omega
    rw [e1] at h1
    rw [← h.1, e1] at h2
    cases h1
    cases h2
    exact hc
theorem minPair_of {p : Int} {rows : List Int} {kk : Nat} {q : Int × Int} (k0 : 0 < kk) (kn : kk ≤ rows.length) (hq : q ∈ (List.range rows.length).map (prAt p rows kk)) (hmin : ∀ q' ∈ (List.range rows.length).map (prAt p rows kk), NM.lexLe q.1 q.2 q'.1 q'.2) : NM.MinPair p rows kk q.1 q.2 := by
  obtain ⟨j, hj, rfl⟩ := List.mem_map.mp hq
  rw [List.mem_range] at hj
  have dl : (NM.dbl p rows).length = rows.length + rows.length := by unfold NM.dbl; rw [List.length_append, List.length_map]
  have get1 : ∀ j, j < rows.length → rows[j]? = some (rows.getD j 0) := fun j h => by rw [List.getD_eq_getElem?_getD, List.getElem?_eq_getElem h]; rfl
  have get2 : ∀ j, j < (NM.dbl p rows).length → (NM.dbl p rows)[j]? = some ((NM.dbl p rows).getD j 0) := fun j h => by rw [List.getD_eq_getElem?_getD, List.getElem?_eq_getElem h]; rfl
  refine ⟨⟨j, _, _, hj, get1 j hj, get2 (j + kk - 1) (by omega), rfl, rfl⟩, fun i x y hi hx hy => ?_⟩
  have m := hmin (prAt p rows kk i) (List.mem_map.mpr ⟨i, List.mem_range.mpr hi, rfl⟩)
  rw [get1 i hi] at hx
  rw [get2 (i + kk - 1) (by omega)] at hy
  cases hx
  cases hy
  exact m
def spNarrow (K : PySem.W.Frag) : Sp := fun vs H Q _ => ∃ (p k : Int) (a : Addr) (os : List Int), vs = [.int p, .ref a, .int k] ∧ SqL K H a (os.map V.int) ∧ os.length ≤ 60 ∧ 0 ≤ k ∧ ∀ (t : Addr) (H' : Hp) (w b : Int), Same H H' → NM.Narrow p os ((os.length : Nat) - k) w b → H' t = some (.tup [.int b, .int w]) → Q (.ref t) H'
theorem ok_narrowest (T : Txt K mg) : FnOk P w K mg base CX0 1 T.a_narrowest T.fd_narrowest ["period", "offsets", "skip"] (spNarrow K) := by
  refine T.F_narrowest.ok sc_narrowest (fun vs H Q E h => ?_) (fun cdv A outer s H vs Q E hr h => ?_)
  · obtain ⟨p, k, a, os, rfl, _⟩ := h; rfl
  · obtain ⟨p, k, a, os, rfl, hS, hl, hk, q⟩ := h
    refine ⟨_, pss_cons (ps_set (i := 3) sc_narrowest.nd rfl (Or.inr rfl) (pe_op op_sub (pe_callB call_len_seq (by rfl) T.n_len (by decide +kernel) (pa_cons (pv 1) (pa_nil))) (pv 2)))
      (pss_cons (ps_if (pt_cmpR op_le (pv 3) (pe_int) (nomark _)) (pss_one (ps_ret (pe_tup (pa_cons (pe_int) (pa_cons (pe_int) (pa_nil)))))) (pss_nil))
      (pss_cons (ps_set (i := 4) sc_narrowest.nd rfl (Or.inr rfl) (pe_callB cr_sorted (by rfl) T.n_sorted (by decide +kernel) (pa_cons (pv 1) (pa_nil))))
      (pss_cons (ps_set (i := 4) sc_narrowest.nd rfl (Or.inr rfl) (pe_op op_cat (pv 4) (pe_lc (own := [("offset", 5)]) (g := gName 5) (tt := tYes) rfl sc_narrowest.nd (pi_list (pv 4)) (blkOk_by (own := [("offset", 5)]) (N := ["period", "offsets", "skip", "needed", "rows", "offset", "width", "begin", "at"]) (sc := defScope s_narrowest) (by decide +kernel)) (fun _ _ _ _ _ => pg_name (i := 5) sc_narrowest.nd rfl (Or.inl rfl)) (fun _ _ _ _ _ => pts_nil) (fun _ _ _ _ _ => pe_op op_add (pv 5) (pv 0)))))
      (pss_cons (ps_asg (pe_callB (cr_minP rfl hr.units) (by rfl) T.n_min (by decide +kernel) (pa_cons (pe_lc (own := [("at", 8)]) (g := gName 8) (tt := tYes) rfl sc_narrowest.nd (pi_range1 (by rfl) T.n_range (pa_cons (pe_callB call_len_seq (by rfl) T.n_len (by decide +kernel) (pa_cons (pv 1) (pa_nil))) (pa_nil))) (blkOk_by (own := [("at", 8)]) (N := ["period", "offsets", "skip", "needed", "rows", "offset", "width", "begin", "at"]) (sc := defScope s_narrowest) (by decide +kernel)) (fun _ _ _ _ _ => pg_name (i := 8) sc_narrowest.nd rfl (Or.inl rfl)) (fun _ _ _ _ _ => pts_nil) (fun _ _ _ _ _ => pe_tup (pa_cons (pe_op op_sub (pe_ix (ix_list2 K (by rfl)) (pv 4) (pe_op op_sub (pe_op op_add (pv 8) (pv 3)) (pe_int)) (fun _ _ => rfl)) (pe_ix (ix_list2 K (by rfl)) (pv 4) (pv 8) (fun _ _ => rfl))) (pa_cons (pe_ix (ix_list2 K (by rfl)) (pv 4) (pv 8) (fun _ _ => rfl)) (pa_nil))))) (pa_nil))) (pg_tup rfl (pgs_cons (pg_name (i := 6) sc_narrowest.nd rfl (Or.inl rfl)) (pgs_cons (pg_name (i := 7) sc_narrowest.nd rfl (Or.inl rfl)) (pgs_nil)))))
      (pss_one (ps_ret (pe_tup (pa_cons (pv 7) (pa_cons (pv 6) (pa_nil)))))))))), ?_⟩
    refine ⟨_, rfl, a, _, rfl, .inl hS, ?_⟩
    refine ⟨_, rfl, _, _, rfl, rfl, ?_⟩
    refine ⟨_, rfl, _, _, rfl, rfl, _, rfl, ?_⟩
    rw [List.length_map]
    refine ite2 (fun hc => ?_) (fun hc => ?_)
    · have hc := of_decide_eq_true hc
      refine ⟨(by show 2 ≤ sizeLine; decide), fun t ht => ?_⟩
      exact q t _ 0 0 (same_new ht) (.inl ⟨hc, rfl, rfl⟩) upd_same
    · have hc : ¬ ((os.length : Nat) : Int) - k ≤ 0 := fun z => hc (decide_eq_true z)
      refine ⟨_, rfl, a, os, rfl, hS, (by omega), fun rows r hperm hsort hr0 => ?_⟩
      have s1 := same_new (o := .lst (rows.map V.int)) hr0
      have eR : (upd H r (.lst (rows.map V.int))) r = some (.lst (rows.map V.int)) := upd_same
      generalize upd H r (.lst (rows.map V.int)) = H1 at s1 eR ⊢
      have lr : rows.length ≤ 60 := by rw [hperm.length_eq]; exact hl
      refine ⟨_, rfl, _, rfl, r, rfl, ⟨_, SqL.of eR⟩, fun D hD => lc_list (K := K) (a := r) (xs := rows.map V.int) (fun i H' => H' = upd H1 D (.lst (((rows.take i).map (· + p)).map V.int))) rfl (fun i H' _ e => by rw [e]; exact SqL.of (same_new hD _ _ eR)) ?_ ?_⟩
      · rintro i v H' hi rfl
        rw [List.getElem?_map] at hi
        obtain ⟨z, hz, rfl⟩ := Option.map_eq_some_iff.mp hi
        have li := (List.getElem?_eq_some_iff.mp hz).1
        refine ⟨rfl, _, rfl, _, rfl, _, _, rfl, rfl, _, upd_same, ?_, ?_⟩
        · rw [List.length_map, List.length_map]
          exact Nat.lt_of_le_of_lt (List.length_take_le _ _) (Nat.lt_of_le_of_lt (show i ≤ 60 by omega) (by decide))
        · rw [upd_upd, List.take_add_one, hz, List.map_append, List.map_append]
          rfl
      · rintro H' rfl
        rw [List.length_map, List.take_length]
        have s2 := same_new (o := .lst ((rows.map (· + p)).map V.int)) hD
        refine ⟨r, D, _, _, rfl, rfl, s2 _ _ eR, upd_same, ?_, fun R hR => ?_⟩
        · rw [List.length_map, List.length_map, List.length_map]
          exact Nat.le_trans (show rows.length + rows.length ≤ 120 by omega) (by decide)
        have ed : rows.map V.int ++ (rows.map (· + p)).map V.int = (NM.dbl p rows).map V.int := by unfold NM.dbl; rw [List.map_append]
        rw [ed] at *
        have s3 := same_new (o := .lst ((NM.dbl p rows).map V.int)) hR
        have eD : (upd (upd H1 D (.lst ((rows.map (· + p)).map V.int))) R (.lst ((NM.dbl p rows).map V.int))) R = some (.lst ((NM.dbl p rows).map V.int)) := upd_same
        have s123 := s1.trans (s2.trans s3)
        generalize upd (upd H1 D (.lst ((rows.map (· + p)).map V.int))) R (.lst ((NM.dbl p rows).map V.int)) = H2 at s3 eD s123 ⊢
        obtain ⟨kk, hkk⟩ : ∃ kk : Nat, ((os.length : Nat) : Int) - k = (kk : Int) := ⟨(((os.length : Nat) : Int) - k).toNat, by omega⟩
        have k0 : 0 < kk := by omega
        have kn : kk ≤ rows.length := by rw [hperm.length_eq]; omega
        have ln : rows.length = os.length := hperm.length_eq
        refine ⟨_, rfl, a, _, rfl, .inl (sqL_same s123 hS), _, rfl, ?_⟩
        have los : (os.map V.int).length = os.length := List.length_map ..
        rw [los]
        refine ⟨by omega, by omega, fun E hE => lc_range (lo := 0) (n := ((os.length : Nat) : Int).toNat) (fun i H' => Same H2 H' ∧ ∃ ts : List Addr, H' E = some (.lst (ts.map V.ref)) ∧ PrsAt H' ts ((List.range i).map (prAt p rows kk))) ⟨same_new hE, [], upd_same, rfl, fun i t q h => by simp at h⟩ ?_ ?_⟩
        · rintro i H' hi ⟨sm, ts, hE', hts⟩
          rw [Int.toNat_natCast] at hi
          have eD' := sm _ _ eD
          have i1 : i + kk - 1 < (NM.dbl p rows).length := by unfold NM.dbl; rw [List.length_append, List.length_map]; omega
          have i2 : i < (NM.dbl p rows).length := by unfold NM.dbl; rw [List.length_append, List.length_map]; omega
          have ia : atI ((NM.dbl p rows).map V.int) (0 + (i : Int) + (((os.length : Nat) : Int) - k) - 1) = some (V.int ((NM.dbl p rows).getD (i + kk - 1) 0)) := by
            rw [show 0 + (i : Int) + (((os.length : Nat) : Int) - k) - 1 = ((i + kk - 1 : Nat) : Int) by omega]
            exact atI_nat (by rw [List.getElem?_map, List.getD_eq_getElem?_getD, List.getElem?_eq_getElem i1]; rfl)
          have ib : atI ((NM.dbl p rows).map V.int) (0 + (i : Int)) = some (V.int (rows.getD i 0)) := by
            rw [Int.zero_add]
            have e1 : rows[i]? = some (rows.getD i 0) := by rw [List.getD_eq_getElem?_getD, List.getElem?_eq_getElem (by omega)]; rfl
            exact atI_nat (by rw [List.getElem?_map, NM.dbl_lo e1]; rfl)
          refine ⟨rfl, _, rfl, _, rfl, _, rfl, _, _, rfl, rfl, _, _, rfl, rfl, R, _, _, _, rfl, rfl, SqL.of eD', ia, ?_⟩
          refine ⟨_, rfl, _, rfl, R, _, _, _, rfl, rfl, SqL.of eD', ib, _, _, rfl, rfl, ?_⟩
          refine ⟨_, rfl, _, rfl, R, _, _, _, rfl, rfl, SqL.of eD', ib, (by show 2 ≤ sizeLine; decide), fun c kc => ?_⟩
          have sc := same_new (o := .tup [.int ((NM.dbl p rows).getD (i + kk - 1) 0 - rows.getD i 0), .int (rows.getD i 0)]) kc
          have nE : c ≠ E := fun z => by rw [z, hE'] at kc; cases kc
          have lts : ts.length = i := by rw [hts.1, List.length_map, List.length_range]
          refine ⟨_, sc _ _ hE', (by rw [List.length_map, lts]; exact Nat.lt_of_lt_of_le (show i < 61 by omega) (by decide)), same_up (sm.trans sc) hE, ts ++ [c], (by rw [upd_same, List.map_append]; rfl), ?_⟩
          rw [List.range_succ, List.map_append]
          refine hts.snoc (fun b zs hb => ?_) ?_
          · have nb : b ≠ E := fun z => by rw [z, hE'] at hb; cases hb
            rw [upd_ne nb]
            exact sc _ _ hb
          · rw [upd_ne nE]
            exact upd_same
        · rintro H' ⟨sm, ts, hE', hts⟩
          rw [Int.toNat_natCast] at hts
          refine ⟨E, ts, _, rfl, SqL.of hE', hts, ?_, fun t q' hq hmin ht => ⟨t, _, rfl, SqT.of ht, rfl, _, _, rfl, _, _, rfl, rfl, _, rfl, _, rfl, (by show 2 ≤ sizeLine; decide), fun t2 ht2 => ?_⟩⟩
          · intro z
            have := congrArg List.length z
            rw [List.length_map, List.length_range, List.length_nil] at this
            omega
          · refine q t2 _ q'.1 q'.2 (s123.trans (sm.trans (same_new ht2))) (.inr ⟨by omega, rows, hperm, hsort, ?_⟩) upd_same
            rw [hkk, Int.toNat_natCast]
            rw [← ln] at hq hmin
            exact minPair_of k0 kn hq hmin

def StAt (C : Addr) (H : Hp) (x : Addr) (b w l : V) : Prop := ∃ dx, H x = some (.ins C dx [("begin", b), ("width", w), ("left", l)])
def spStInit (C : Addr) : Sp := fun vs H Q _ => ∃ (x dx : Addr) (b w l : V), vs = [.ref x, b, w, l] ∧ H x = some (.ins C dx []) ∧ ∀ H', (∀ y o, y ≠ x → H y = some o → H' y = some o) → StAt C H' x b w l → Q .non H'
theorem ok_Stretch_init (T : Txt K mg) : FnOk P w K mg base CX0 1 T.a_Stretch_init T.fd_Stretch_init ["self", "begin", "width", "left"] (spStInit T.a_Stretch) := by
  refine T.F_Stretch_init.ok sc_Stretch_init (fun vs H Q E h => ?_) (fun cdv A outer s H vs Q E hr h => ?_)
  · obtain ⟨x, dx, b, w, l, rfl, _⟩ := h; rfl
  · obtain ⟨x, dx, b, w, l, rfl, hx, k⟩ := h
    refine ⟨_, pss_cons (ps_fld (pv 0) (pv 1) rfl)
      (pss_cons (ps_fld (pv 0) (pv 2) rfl)
      (pss_one (ps_fld (pv 0) (pv 3) rfl))), ?_⟩
    refine ⟨_, rfl, _, rfl, x, T.a_Stretch, dx, _, rfl, hx, T.cls, T.na _ (by simp), (by show 0 < 1000; decide), ?_⟩
    refine ⟨_, rfl, _, rfl, x, T.a_Stretch, dx, _, rfl, upd_same, T.cls, T.na _ (by simp), (by show 1 < 1000; decide), ?_⟩
    refine ⟨_, rfl, _, rfl, x, T.a_Stretch, dx, _, rfl, upd_same, T.cls, T.na _ (by simp), (by show 2 < 1000; decide), ?_⟩
    refine k _ (fun y o n e => ?_) ⟨dx, upd_same⟩
    rw [upd_ne n, upd_ne n, upd_ne n]
    exact e
theorem op_two {X : Cx} {f : Value → Value → Sem Value} {r1 r2 : R2} (h1 : OpR X f r1) (h2 : OpR X f r2) : OpR X f (fun x y H Q => r1 x y H Q ∨ r2 x y H Q) := by
  intro pins s σ H x y v u Q I rx ry h
  rcases h with h | h
  · exact h1 pins s σ H x y v u Q I rx ry h
  · exact h2 pins s σ H x y v u Q I rx ry h
theorem canLay_ints : ∀ is : List Int, PyData.canLayAll0 (is.map PyData.int) = true
  | [] => rfl
  | _ :: r => by simp [PyData.canLayAll0, PyData.canLay0, canLay_ints r]
theorem depth_ints : ∀ is : List Int, PyData.depthAll (is.map PyData.int) = 0
  | [] => rfl
  | _ :: r => by simp [PyData.depthAll, PyData.depth, depth_ints r]
theorem shapedT_ints (is : List Int) : SeqAt.shaped (.tuple (is.map PyData.int)) = true := by
  simp [SeqAt.shaped, PyData.canLay0, PyData.depth, canLay_ints, depth_ints]
theorem eqvAll_ij : ∀ is js : List Int, PyData.eqvAll (is.map PyData.int) (js.map PyData.int) = decide (is = js)
  | [], [] => by simp [PyData.eqvAll]
  | [], _ :: _ => by simp [PyData.eqvAll]
  | _ :: _, [] => by simp [PyData.eqvAll]
  | a :: r, b :: t => by
    simp only [List.map_cons, PyData.eqvAll, PyData.eqv, eqvAll_ij r t]
    by_cases h : a = b <;> by_cases h' : r = t <;> simp [h, h']
theorem eqvT_ij (is js : List Int) : PyData.eqv (.tuple (is.map PyData.int)) (.tuple (js.map PyData.int)) = decide (is = js) := by
  rw [PyData.eqv]; exact eqvAll_ij is js
def spStEq (K : PySem.W.Frag) (C : Addr) : Sp := fun vs H Q _ => ∃ (x y : Addr) (b w b' w' : Int) (l l' : V), vs = [.ref x, .ref y] ∧ StAt C H x (.int b) (.int w) l ∧ StAt C H y (.int b') (.int w') l' ∧
  ((∃ (a a' : Addr) (is js : List Int), l = .ref a ∧ l' = .ref a' ∧ SqT K H a (is.map V.int) ∧ SqT K H a' (js.map V.int) ∧ Q (.bl (decide (b = b' ∧ w = w' ∧ is = js))) H) ∨ (∃ i j : Int, l = .int i ∧ l' = .int j ∧ Q (.bl (decide (b = b' ∧ w = w' ∧ i = j))) H))
theorem dpT_ints {H : Hp} {a : Addr} {is : List Int} (h : SqT K H a (is.map V.int)) : Dp K H (.ref a) (.tuple (is.map PyData.int)) := .tup h (dp_ints is)
theorem ok_Stretch_eq (T : Txt K mg) : FnOk P w K mg base CX0 1 T.a_Stretch_eq T.fd_Stretch_eq ["self", "other"] (spStEq K T.a_Stretch) := by
  refine T.F_Stretch_eq.ok sc_Stretch_eq (fun vs H Q E h => ?_) (fun cdv A outer s H vs Q E hr h => ?_)
  · obtain ⟨x, y, b, w, b', w', l, l', rfl, _⟩ := h; rfl
  · obtain ⟨x, y, b, w, b', w', l, l', rfl, ⟨dx, hx⟩, ⟨dy, hy⟩, k⟩ := h
    refine ⟨_, pss_cons (ps_if (PW.pt (pw_or (pt_not (pt_val (pe_callB call_isi (by rfl) T.n_isinstance (by decide +kernel) (pa_cons (pv 1) (pa_cons (pe_glob (v := .ref T.a_Stretch) rfl T.m_Stretch rfl) (pa_nil)))))) (pw_or1 (pt_cmpR op_ne (pe_fld (pv 0) rfl) (pe_fld (pv 1) rfl) (nomark _))))) (pss_one (ps_ret (pe_bl))) (pss_nil))
      (pss_one (ps_ret (pe_and (pe_cmpR op_eq (pe_fld (pv 0) rfl) (pe_fld (pv 1) rfl) (nomark _)) (pe_one (pe_cmpR (op_two op_eq (op_eqD hr.units)) (pe_fld (pv 0) rfl) (pe_fld (pv 1) rfl) (nomark _)))))), ?_⟩
    refine ⟨_, rfl, .ref y, .ref T.a_Stretch, .ref T.a_Stretch, .ref T.a_Stretch, true, rfl, (by constructor), T.ki H y dy _ hy, T.kk, true, rfl, ?_⟩
    refine ⟨_, rfl, x, T.a_Stretch, dx, _, _, rfl, hx, T.cls, T.na _ (by simp), rfl, _, rfl, y, T.a_Stretch, dy, _, _, rfl, hy, T.cls, T.na _ (by simp), rfl, rfl, _, rfl, ?_⟩
    by_cases hb : b = b'
    · subst hb
      refine if_false_of (by rw [decide_eq_true rfl]; rfl) ?_
      refine ⟨_, rfl, x, T.a_Stretch, dx, _, _, rfl, hx, T.cls, T.na _ (by simp), rfl, _, rfl, y, T.a_Stretch, dy, _, _, rfl, hy, T.cls, T.na _ (by simp), rfl, rfl, _, rfl, ?_⟩
      by_cases hw : w = w'
      · subst hw
        refine if_true_of (decide_eq_true rfl) ?_
        refine ⟨_, rfl, x, T.a_Stretch, dx, _, _, rfl, hx, T.cls, T.na _ (by simp), rfl, _, rfl, y, T.a_Stretch, dy, _, _, rfl, hy, T.cls, T.na _ (by simp), rfl, ?_⟩
        rcases k with ⟨a, a', is, js, rfl, rfl, ha, ha', k⟩ | ⟨i, j, rfl, rfl, k⟩
        · refine .inr ⟨_, _, dpT_ints ha, dpT_ints ha', shapedT_ints is, shapedT_ints js, ?_⟩
          refine Eq.mpr (congrArg (fun c => Q (V.bl c) H) ?_) k
          rw [eqvT_ij, decide_eq_decide]
          exact ⟨fun z => ⟨rfl, rfl, z⟩, fun z => z.2.2⟩
        · refine .inl ⟨rfl, ?_⟩
          refine Eq.mpr (congrArg (fun c => Q (V.bl c) H) ?_) k
          rw [decide_eq_decide]
          exact ⟨fun z => ⟨rfl, rfl, by injection z⟩, fun z => by rw [z.2.2]⟩
      · refine if_false_of (decide_eq_false fun z => hw (by injection z)) ?_
        rcases k with ⟨a, a', is, js, rfl, rfl, ha, ha', k⟩ | ⟨i, j, rfl, rfl, k⟩
        · rw [decide_eq_false fun z => hw z.2.1] at k; exact k
        · rw [decide_eq_false fun z => hw z.2.1] at k; exact k
    · refine if_true_of (by rw [decide_eq_false (fun z => hb (by injection z))]; rfl) ?_
      rcases k with ⟨a, a', is, js, rfl, rfl, ha, ha', k⟩ | ⟨i, j, rfl, rfl, k⟩
      · rw [decide_eq_false fun z => hb z.1] at k; exact k
      · rw [decide_eq_false fun z => hb z.1] at k; exact k
theorem filter_range {f : Nat → Bool} {i : Nat} : (List.range (i + 1)).filter f = (List.range i).filter f ++ (if f i = true then [i] else []) := by
  rw [List.range_succ, List.filter_append]
  congr 1
  by_cases h : f i = true
  · rw [List.filter_cons_of_pos h, if_pos h]; rfl
  · rw [List.filter_cons_of_neg h, if_neg h]; rfl

/-! ### the stretch of any pairs of an index and an offset -/
def leftQ (p b w : Int) (qs : List (Int × Int)) : List Int := (qs.filter fun q => !NM.inSt p b w q.2).map (·.1)
theorem leftQ_take {p b w : Int} {qs : List (Int × Int)} {i : Nat} {q : Int × Int} (h : qs[i]? = some q) : leftQ p b w (qs.take (i + 1)) = leftQ p b w (qs.take i) ++ (if (!NM.inSt p b w q.2) = true then [q.1] else []) := by
  unfold leftQ
  rw [List.take_add_one, h, List.filter_append, List.map_append]
  congr 1
  show List.map _ (List.filter _ [q]) = _
  by_cases c : (!NM.inSt p b w q.2) = true
  · rw [if_pos c, List.filter_cons_of_pos (p := fun q : Int × Int => !NM.inSt p b w q.2) c]; rfl
  · rw [if_neg c, List.filter_cons_of_neg (p := fun q : Int × Int => !NM.inSt p b w q.2) c]; rfl
theorem leftQ_len {p b w : Int} {qs : List (Int × Int)} : (leftQ p b w qs).length ≤ qs.length := by
  unfold leftQ
  rw [List.length_map]
  exact List.length_filter_le _ _
def spStretchG (K : PySem.W.Frag) (C : Addr) : Sp := fun vs H Q _ => ∃ (p k : Int) (a : Addr) (ts : List Addr) (qs : List (Int × Int)), vs = [.int p, .ref a, .int k] ∧ H a = some (.lst (ts.map V.ref)) ∧ PrsAt H ts qs ∧ qs.length ≤ 60 ∧ 0 < p ∧ 0 ≤ k ∧
  ∀ (x lt : Addr) (H' : Hp) (b w : Int), Same H H' → NM.Narrow p (qs.map (·.2)) ((qs.length : Nat) - k) w b → H' lt = some (.tup ((leftQ p b w qs).map V.int)) → StAt C H' x (.int b) (.int w) (.ref lt) → Q (.ref x) H'
theorem ok_stretch_of (T : Txt K mg) : FnOk P w K mg base CX0 3 T.a_stretch_of T.fd_stretch_of ["period", "indexed", "skip"] (spStretchG K T.a_Stretch) := by
  refine T.F_stretch_of.ok sc_stretch_of (fun vs H Q E h => ?_) (fun cdv A outer s H vs Q E hr h => ?_)
  · obtain ⟨p, k, a, ts, qs, rfl, _⟩ := h; rfl
  · obtain ⟨p, k, a, ts, qs, rfl, ha, hT, hl, hp, hk, q⟩ := h
    refine ⟨_, pss_cons (ps_asg (pe_call (ok_narrowest T) (hr.mono (by decide)) rfl T.m_narrowest T.F_narrowest.kp (b_narrowest T) .nil pass0 (pa_cons (pv 0) (pa_cons (pe_lc (own := [("at", 5), ("offset", 6)]) (tt := tYes) rfl sc_stretch_of.nd (pi_list (pv 1)) (blkOk_by (own := [("at", 5), ("offset", 6)]) (N := ["period", "indexed", "skip", "begin", "width", "at", "offset"]) (sc := defScope s_stretch_of) (by decide +kernel)) (fun _ _ _ _ _ => pg_tup2 K 2 (by rfl) (by rfl) (pgs_cons (pg_name (i := 5) sc_stretch_of.nd rfl (Or.inl rfl)) (pgs_cons (pg_name (i := 6) sc_stretch_of.nd rfl (Or.inl rfl)) (pgs_nil)))) (fun _ _ _ _ _ => pts_nil) (fun _ _ _ _ _ => pv 6)) (pa_cons (pv 2) (pa_nil))))) (pg_tup rfl (pgs_cons (pg_name (i := 3) sc_stretch_of.nd rfl (Or.inr rfl)) (pgs_cons (pg_name (i := 4) sc_stretch_of.nd rfl (Or.inr rfl)) (pgs_nil)))))
      (pss_one (ps_ret (pe_mkR T.mks ((ok_Stretch_init T).raw (b_Stretch_init T) .nil) (hr.mono (by decide)) pass0 rfl T.m_Stretch (pa_cons (pv 3) (pa_cons (pv 4) (pa_cons (pe_callTy call_tuple_of (by rfl) T.n_tuple (by decide +kernel) (pa_cons (pe_lc (own := [("at", 5), ("offset", 6)]) rfl sc_stretch_of.nd (pi_list (pv 1)) (blkOk_by (own := [("at", 5), ("offset", 6)]) (N := ["period", "indexed", "skip", "begin", "width", "at", "offset"]) (sc := defScope s_stretch_of) (by decide +kernel)) (fun _ _ _ _ _ => pg_tup2 K 2 (by rfl) (by rfl) (pgs_cons (pg_name (i := 5) sc_stretch_of.nd rfl (Or.inl rfl)) (pgs_cons (pg_name (i := 6) sc_stretch_of.nd rfl (Or.inl rfl)) (pgs_nil)))) (fun _ _ _ _ _ => pts_one (pt_cmpR op_gt (pe_op op_modN (pe_op op_sub (pv 6) (pv 3)) (pv 0)) (pv 4) (nomark _))) (fun _ _ _ _ _ => pv 5)) (pa_nil))) (pa_nil))))))), ?_⟩
    have lt : ts.length = qs.length := hT.1
    have lq : (qs.map (·.2)).length = qs.length := List.length_map ..
    refine ⟨_, rfl, _, rfl, a, rfl, ⟨_, SqL.of ha⟩, fun D hD => lc_list (K := K) (a := a) (xs := ts.map V.ref) (fun i H' => H' = upd H D (.lst (((qs.map (·.2)).take i).map V.int))) rfl (fun i H' _ e => by rw [e]; exact SqL.of (same_new hD _ _ ha)) ?_ ?_⟩
    · rintro i v H' hi rfl
      rw [List.getElem?_map] at hi
      obtain ⟨t, ht, rfl⟩ := Option.map_eq_some_iff.mp hi
      have li : i < qs.length := by rw [← lt]; exact (List.getElem?_eq_some_iff.mp ht).1
      have hti := hT.2 i t _ ht (List.getElem?_eq_getElem li)
      refine ⟨t, _, rfl, SqT.of (same_new hD _ _ hti), rfl, _, _, rfl, _, _, rfl, rfl, ?_⟩
      have eo : (qs.map (·.2))[i]? = some qs[i].2 := by rw [List.getElem?_map, List.getElem?_eq_getElem li]; rfl
      refine ⟨rfl, _, rfl, _, upd_same, ?_, ?_⟩
      · rw [List.length_map]
        exact Nat.lt_of_le_of_lt (List.length_take_le _ _) (Nat.lt_of_lt_of_le (show i < 61 by omega) (by decide))
      · rw [upd_upd, List.take_add_one, eo, List.map_append]
        rfl
    · rintro H' rfl
      rw [List.length_map, lt, ← lq, List.take_length]
      have s1 := same_new (o := .lst ((qs.map (·.2)).map V.int)) hD
      refine ⟨_, rfl, p, k, D, qs.map (·.2), rfl, SqL.of upd_same, by rw [lq]; exact hl, hk, fun t2 H2 w b s2 hN ht2 => ⟨t2, _, rfl, SqT.of ht2, rfl, _, _, rfl, _, _, rfl, rfl, ?_⟩⟩
      rw [lq] at hN
      have s12 := s1.trans s2
      have ha2 := s12 _ _ ha
      have hT2 := hT.same s12
      refine ⟨_, rfl, _, rfl, _, rfl, a, rfl, ⟨_, SqL.of ha2⟩, fun D2 hD2 => lc_list (K := K) (a := a) (xs := ts.map V.ref) (fun i H' => H' = upd H2 D2 (.lst ((leftQ p b w (qs.take i)).map V.int))) rfl (fun i H' _ e => by rw [e]; exact SqL.of (same_new hD2 _ _ ha2)) ?_ ?_⟩
      · rintro i v H' hi rfl
        rw [List.getElem?_map] at hi
        obtain ⟨t, ht, rfl⟩ := Option.map_eq_some_iff.mp hi
        have li : i < qs.length := by rw [← lt]; exact (List.getElem?_eq_some_iff.mp ht).1
        have eq := List.getElem?_eq_getElem li
        have hti := hT2.2 i t _ ht eq
        refine ⟨t, _, rfl, SqT.of (same_new hD2 _ _ hti), rfl, _, _, rfl, _, _, rfl, rfl, ?_⟩
        refine ⟨rfl, _, rfl, _, rfl, _, _, rfl, rfl, _, rfl, _, _, rfl, rfl, (by omega), _, rfl, _, _, rfl, rfl, _, rfl, ?_⟩
        have ec : decide (w < (qs[i].2 - b).fmod p) = !NM.inSt p b w qs[i].2 := by
          unfold NM.inSt
          rw [Int.fmod_eq_emod_of_nonneg _ (by omega), ← decide_not, decide_eq_decide]
          omega
        refine ite2 (fun hc => ?_) (fun hc => ?_)
        · have hc : (!NM.inSt p b w qs[i].2) = true := ec.symm.trans hc
          refine ⟨_, rfl, _, upd_same, ?_, ?_⟩
          · have := leftQ_len (p := p) (b := b) (w := w) (qs := qs.take i)
            have l2 : (qs.take i).length ≤ i := List.length_take_le _ _
            rw [List.length_map]
            exact Nat.lt_of_lt_of_le (show _ < 61 by omega) (by decide)
          · rw [upd_upd, leftQ_take eq, if_pos hc, List.map_append]
            rfl
        · have hc : ¬ (!NM.inSt p b w qs[i].2) = true := fun z => hc (ec.trans z)
          rw [leftQ_take eq, if_neg hc, List.append_nil]
      · rintro H' rfl
        rw [List.length_map, lt, List.take_length]
        have s3 := same_new (o := .lst ((leftQ p b w qs).map V.int)) hD2
        refine ⟨D2, _, rfl, .inl ⟨SqL.of upd_same, fun tp htp => ?_⟩⟩
        have s4 := same_new (o := .tup ((leftQ p b w qs).map V.int)) htp
        have eT : (upd (upd H2 D2 (.lst ((leftQ p b w qs).map V.int))) tp (.tup ((leftQ p b w qs).map V.int))) tp = some (.tup ((leftQ p b w qs).map V.int)) := upd_same
        have sG := s12.trans (s3.trans s4)
        generalize upd (upd H2 D2 (.lst ((leftQ p b w qs).map V.int))) tp (.tup ((leftQ p b w qs).map V.int)) = G at eT sG ⊢
        intro x dx hx hd hn
        have s5 := same_new (o := .own x) hd
        have hx1 : (upd G dx (.own x)) x = Option.none := by rw [upd_ne (Ne.symm hn)]; exact hx
        have s6 := same_new (o := .ins T.a_Stretch dx []) hx1
        refine ⟨x, dx, .int b, .int w, .ref tp, rfl, upd_same, fun H' keep st => ⟨rfl, ?_⟩⟩
        have sAll : Same G H' := fun y o e => keep y o (ne_of_none e hx) ((s5.trans s6) _ _ e)
        exact q x tp H' b w (sG.trans sAll) hN (sAll _ _ eT) st

/-! ### defs told for callers around whom nothing is being shown by repr -/
def FnG (P : Program) (w : World) (K : PySem.W.Frag) (mg : Str → Option Value) (base : Heap) (CX : CXT) (k : Nat) (f : Addr) (sp : Sp) : Prop :=
  ∀ (A : Around) (outer : List Env) (s : Shared) (H : Hp) (us : List Value) (vs : List V) (Q : VK) (E : XK), A.guards = some [] → Room k A → Env0 P w K mg base A outer s H → Vals vs us → sp vs H Q E →
    codeAny (model P w) A (.call (.ref f) { pos := us, kw := [] }) (CR CX outer P w H s Q E) s
theorem FnG.of {P : Program} {w : World} {K : PySem.W.Frag} {mg : Str → Option Value} {base : Heap} {CX : CXT} {k : Nat} {f : Addr} {sp : Sp} (F : FnR P w K mg base CX k f sp) : FnG P w K mg base CX k f sp :=
  fun A o s H us vs Q E _ hr => F A o s H us vs Q E hr
theorem FnG.mk {P : Program} {w : World} {K : PySem.W.Frag} {mg : Str → Option Value} {base : Heap} {CX : CXT} {k : Nat} {x qual : Str} {st : Stmt} {f : Addr} {fd : FuncData} {N ps : List Str} {sp : Sp}
    (F : Fun K x qual st f fd) (S : FnScope N ps (defScope st)) (B : Binds K fd ps []) (len : ∀ vs H Q E, sp vs H Q E → vs.length = ps.length)
    (go : ∀ (cdv : Value) (A : Around) (outer : List Env) (s : Shared) (H : Hp) (vs : List V) (Q : VK) (E : XK), (A.deeper (envOfC qual (defScope st) s.heap.objs.size f cdv)).guards = some [] → Room k (A.deeper (envOfC qual (defScope st) s.heap.objs.size f cdv)) → sp vs H Q E →
      ∃ t, PSs (cxOf CX P w K mg base N qual (defScope st) f cdv A outer s H E) (defBody st) t ∧ t { nx := fun _ H1 => Q .non H1, rt := Q } (start N vs) H) : FnG P w K mg base CX (k + 1) f sp := by
  obtain ⟨oc, od, kV, doc, pm, an, cdv, ct, osl, e, lk, hcd⟩ := F.ex
  subst e
  intro A outer s H us vs Q E hg hr e0 rv hs
  have hl := len _ _ _ _ hs
  have hu : (us ++ []).length = ps.length := by rw [List.append_nil, ← hl]; exact rv.length.symm
  have b := B s us (e0.mod.kin.keeps fun b o z => (e0.bs b o z).1) hu
  rw [List.append_nil] at b
  exact LamX.run_ofS lk hcd S hr e0 b rv hl fun hr1 => go cdv A outer s H vs Q E hg hr1 hs
theorem FnG.mk0 {P : Program} {w : World} {K : PySem.W.Frag} {mg : Str → Option Value} {base : Heap} {k : Nat} {x qual : Str} {st : Stmt} {f : Addr} {fd : FuncData} {N ps : List Str} {sp : Sp}
    (F : Fun K x qual st f fd) (S : FnScope N ps (defScope st)) (B : Binds K fd ps []) (len : ∀ vs H Q E, sp vs H Q E → vs.length = ps.length)
    (go : ∀ (cdv : Value) (A : Around) (outer : List Env) (s : Shared) (H : Hp) (vs : List V) (Q : VK) (E : XK), (A.deeper (envOfC qual (defScope st) s.heap.objs.size f cdv)).guards = some [] → Room k (A.deeper (envOfC qual (defScope st) s.heap.objs.size f cdv)) → sp vs H Q E →
      ∃ t, PSs (cxOf CX0 P w K mg base N qual (defScope st) f cdv A outer s H E).nox (defBody st) t ∧ t { nx := fun _ H1 => Q .non H1, rt := Q } (start N vs) H) : FnG P w K mg base CX0 (k + 1) f sp :=
  FnG.mk F S B len fun cdv A outer s H vs Q E hg hr hs => by
    obtain ⟨t, ht, q⟩ := go cdv A outer s H vs Q E hg hr hs
    exact ⟨t, ht.nox, q⟩
/-- .. of a def whose code object is known -/
theorem FnG.mkL {P : Program} {w : World} {K : PySem.W.Frag} {mg : Str → Option Value} {base : Heap} {k : Nat} {x qual : Str} {st : Stmt} {f c : Addr} {N ps : List Str} {sp : Sp} {oc : Value} {od an : Option Addr} {osl : Array (Option Value)} {kV doc pm ct : Value}
    (lk : K.lookup f = some ⟨oc, od, .func (PySem.W.fnOf x qual (defArgs st) (defBody st) (defScope st) .none kV doc pm an (.ref c) ct), osl⟩) (hcd : PySem.W.codeIn K (.ref c) qual = true) (S : FnScope N ps (defScope st))
    (B : Binds K (PySem.W.fnOf x qual (defArgs st) (defBody st) (defScope st) .none kV doc pm an (.ref c) ct) ps []) (len : ∀ vs H Q E, sp vs H Q E → vs.length = ps.length)
    (go : ∀ (A : Around) (outer : List Env) (s : Shared) (H : Hp) (vs : List V) (Q : VK) (E : XK), (A.deeper (envOfC qual (defScope st) s.heap.objs.size f (.ref c))).guards = some [] → Room k (A.deeper (envOfC qual (defScope st) s.heap.objs.size f (.ref c))) → sp vs H Q E →
      ∃ t, PSs (cxOf CX0 P w K mg base N qual (defScope st) f (.ref c) A outer s H E).nox (defBody st) t ∧ t { nx := fun _ H1 => Q .non H1, rt := Q } (start N vs) H) : FnG P w K mg base CX0 (k + 1) f sp := by
  intro A outer s H us vs Q E hg hr e0 rv hs
  have hl := len _ _ _ _ hs
  have hu : (us ++ []).length = ps.length := by rw [List.append_nil, ← hl]; exact rv.length.symm
  have b := B s us (e0.mod.kin.keeps fun b o z => (e0.bs b o z).1) hu
  rw [List.append_nil] at b
  exact LamX.run_ofS lk hcd S hr e0 b rv hl fun hr1 => by
    obtain ⟨t, ht, q⟩ := go A outer s H vs Q E hg hr1 hs
    exact ⟨t, ht.nox, q⟩
/-- x(e, ..), x such a def -/
theorem pe_callG {X : Cx} {CX : CXT} {k : Nat} {f : Addr} {sp : Sp} {E : XK} {x : Str} {e : Expr} {es : List Expr} {t : TA} {p pos : Pos} (gu : X.A.guards = some []) (F : FnG X.prog X.w X.K X.mg X.base CX k f sp) (hr : Room k X.A) (hk : PySem.W.keepIn X.K (.ref f) = true) (hg : Gl X x) (hm : X.mg x = some (.ref f)) (hx : Passes CX X E)
    (ha : PA X (e :: es) t) (hd : (x == ("__debug__" : Str)) = false := by decide) (he : starEach (e :: es) X.env = (false, eval e X.env) :: starEach es X.env := by rfl) (hpl : (backTo pos (starEach es X.env)).any (·.1) = false := by rfl) :
    PE X (.Call (.Name x p) (e :: es) [] pos) (fun σ H Q => t σ H fun vs H1 => sp vs H1 Q E) := by
  refine ⟨fun pins s σ H Q I h => wpAny_Call_Name_kw (ld_glob I hg hm ?_ hd)⟩
  refine PySem.W.callWith_K (h₀ := X.base) I.ok.mod.kin hk (thn (ha.run pos pins s σ H _ I h) fun us s1 ⟨vs, H1, I1, r, q⟩ => ⟨I1.kIn, wpAny_call ?_⟩) he hpl
  refine codeAny_mono (F X.A X.stack s1 H1 us vs Q E gu hr I1.env0 r q) fun z s2 hz => ?_
  match z, hz with
  | .error er, hz => exact hx pins σ H1 s1 er s2 I1 hz
  | .ok (.ret u), hz => exact I1.after hz
/-! ### the law's entry, with tables of code objects and nothing being shown -/
section
variable {P : Program} {w : World} {K : PySem.W.Frag} {mg mb : Str → Option Value} {a : Addr} {cs : List (Addr × Addr)} {s : Shared} {vs : List Value} {ns : List Int}
open Classical in
/-- what is tracked at the entry: the script, if it is none of the written things, and the tables -/
noncomputable def H1st (K : PySem.W.Frag) (a : Addr) (cs : List (Addr × Addr)) (vs : List Value) (ns : List Int) : Hp := fun b =>
  if b = a ∧ K.lookup a = Option.none then some (.frz ({ cls := .type "list", data := .seq vs.toArray } : Obj) (.lst (ns.map V.int))) else if ∃ p ∈ cs, p.2 = b then some (.tbl #[]) else Option.none
theorem entry (KX : K.In s.heap) (G : s.heap.Ns mainGlobals mg) (Gb : s.heap.Ns builtinsNs mb) (bb : ∀ x : Str, x ≠ "__name__" → mb x = bootBuiltins x) (nl : s.heap.NoLimit) (ng : s.gens = #[])
    (tb : ∀ p ∈ cs, s.heap.get? p.2 = some ({ cls := .none, data := .fields #[] } : Obj)) (tk : ∀ p ∈ cs, K.lookup p.2 = Option.none) (ch : ∀ p ∈ cs, PySem.W.CodeHd s.heap p.1 p.2)
    (bm : ∃ (m : Addr) (o : Obj), mg "__builtins__" = some (.ref m) ∧ m ≠ builtinsNs ∧ s.heap.get? m = some o ∧ o.cls = .type "module" ∧ o.dict = some builtinsNs ∧ o.data = .plain)
    (sc : s.heap.get? a = some ({ cls := .type "list", data := .seq vs.toArray } : Obj)) (iv : IntsAre vs ns) (len : ns.length ≤ sizeLine) :
    ∃ (H : Hp) (base : Heap), K.In base ∧ base.Ns mainGlobals mg ∧ (∀ p ∈ cs, LamX.TabB base mg p.1 p.2) ∧ Env0 P w K mg base callerA [] s H ∧ (∀ p ∈ cs, H p.2 = some (.tbl #[])) ∧ SqL K H a (ns.map V.int) ∧
      ∀ b, H b = Option.none ∨ (∃ p ∈ cs, p.2 = b) ∨ ∃ o xs, H b = some (.frz o (.lst xs)) := by
  have rv := vals_ints iv
  have nt : ¬ ∃ p ∈ cs, p.2 = a := fun ⟨p, hp, e⟩ => by
    have z := tb p hp
    rw [e, sc] at z
    exact nomatch congrArg Obj.data (Option.some.inj z)
  -- what is tracked
  have tr : ∀ b u, H1st K a cs vs ns b = some u → (b = a ∧ K.lookup a = Option.none ∧ u = .frz ({ cls := .type "list", data := .seq vs.toArray } : Obj) (.lst (ns.map V.int))) ∨ ((∃ p ∈ cs, p.2 = b) ∧ u = .tbl #[]) := fun b u h => by
    unfold H1st at h
    split at h
    · rename_i c; exact .inl ⟨c.1, c.2, (Option.some.inj h).symm⟩
    · split at h
      · rename_i c; exact .inr ⟨c, (Option.some.inj h).symm⟩
      · cases h
  have tt : ∀ p ∈ cs, H1st K a cs vs ns p.2 = some (.tbl #[]) := fun p hp => by
    unfold H1st
    rw [if_neg (fun z : p.2 = a ∧ _ => nt ⟨p, hp, z.1⟩), if_pos ⟨p, hp, rfl⟩]
  have un : ∀ b o, s.heap.get? b = some o → (∀ v n, o.data ≠ .seq v n) → o.data ≠ .fields #[] → H1st K a cs vs ns b = Option.none := fun b o e n1 n2 => by
    match q : H1st K a cs vs ns b with
    | Option.none => rfl
    | some u =>
      exfalso
      rcases tr b u q with ⟨z, _, _⟩ | ⟨⟨p, hp, z⟩, _⟩
      · rw [z, sc] at e; cases e; exact n1 _ _ rfl
      · rw [← z, tb p hp] at e; cases e; exact n2 rfl
  have keep : ∀ {b : Addr} {o : Obj}, s.heap.get? b = some o → (∀ v n, o.data ≠ .seq v n) → o.data ≠ .fields #[] → (hidT s.heap (H1st K a cs vs ns)).get? b = some o := fun e n1 n2 => hidT_get e (un _ _ e n1 n2)
  have nsOf : ∀ {b : Addr} {m : Str → Option Value}, s.heap.Ns b m → (hidT s.heap (H1st K a cs vs ns)).Ns b m := fun {b m} ⟨o, es, ep, e, d, r⟩ => ⟨o, es, ep, keep e (fun v n z => by rw [d] at z; cases z) (fun z => by rw [d] at z; cases z), d, r⟩
  have kin : K.In (hidT s.heap (H1st K a cs vs ns)) := fun b o e => hidT_get (KX b o e) (by
    match q : H1st K a cs vs ns b with
    | Option.none => rfl
    | some u =>
      exfalso
      rcases tr b u q with ⟨z, z2, _⟩ | ⟨⟨p, hp, z⟩, _⟩
      · rw [z, z2] at e; cases e
      · rw [← z, tk p hp] at e; cases e)
  have md : L2.Mod K mg (hidT s.heap (H1st K a cs vs ns)) := { kin := kin, glob := nsOf G, blt := ⟨mb, nsOf Gb, bb⟩, nolimit := by obtain ⟨mc, q1, q2⟩ := nl; exact ⟨mc, nsOf q1, q2⟩ }
  have gl : ∀ p ∈ cs, mainGlobals ≠ p.2 := fun p hp z => by
    obtain ⟨o, es, ep, e, d, _⟩ := G
    rw [z, tb p hp] at e
    cases e
    cases d
  refine ⟨H1st K a cs vs ns, hidT s.heap (H1st K a cs vs ns), kin, nsOf G, fun p hp => ⟨?_, ?_, gl p hp⟩, ⟨rfl, md, fun b o e => of_hidT e, Nat.le_of_eq (hidT_size _ _), trivial, fun b hb => (List.not_mem_nil hb).elim, fun b u q => ?_, .of_eq ng⟩, tt, ?_, fun b => ?_⟩
  · obtain ⟨o, us, file, tf, flags, tg, inF, text, tt, q0, q1, q2, q3, rest⟩ := ch p hp
    refine ⟨o, us, file, tf, flags, tg, inF, text, tt, keep q0 (fun v n z => by rw [q2] at z; cases z) (fun z => ?_), q1, q2, q3, rest⟩
    rw [q2] at z
    cases z
    simp at q3
  · obtain ⟨m, o, b1, b2, b3, b4, b5, b6⟩ := bm
    refine ⟨m, o, b1, b2, fun z => ?_, fun z => ?_, keep b3 (fun v n z => by rw [b6] at z; cases z) (fun z => by rw [b6] at z; cases z), b4, b5, b6⟩
    · obtain ⟨o2, es, ep, e, d, _⟩ := G
      rw [z, e] at b3
      cases b3
      rw [d] at b6
      cases b6
    · rw [z, tb p hp] at b3
      cases b3
      cases b6
  · rcases tr b u q with ⟨z, _, z3⟩ | ⟨⟨p, hp, z⟩, z3⟩
    · rw [z, z3]
      exact ⟨sc, by rw [List.length_map]; exact len, vs, _, rv, sc⟩
    · rw [← z, z3]
      exact tb p hp
  · match q : K.lookup a with
    | Option.none => exact .inl (.inr ⟨_, by unfold H1st; rw [if_pos ⟨rfl, q⟩]⟩)
    | some o =>
      have e := KX a o q
      rw [sc] at e
      cases e
      exact .inr ⟨_, vs.toArray, _, q, rfl, rfl, rfl, by rw [List.size_toArray, iv.length]; exact len, by simpa using rv⟩
  · match q : H1st K a cs vs ns b with
    | Option.none => exact .inl rfl
    | some u =>
      rcases tr b u q with ⟨_, _, z3⟩ | ⟨z, _⟩
      · rw [z3]; exact .inr (.inr ⟨_, _, rfl⟩)
      · exact .inr (.inl z)
/-- what stood before the law stands behind it -/
theorem leave {H H2 : Hp} {s2 : Shared} (tb : ∀ p ∈ cs, s.heap.get? p.2 = some ({ cls := .none, data := .fields #[] } : Obj)) (ch : ∀ p ∈ cs, PySem.W.CodeHd s.heap p.1 p.2) (tt : ∀ p ∈ cs, H p.2 = some (.tbl #[]))
    (only : ∀ b, H b = Option.none ∨ (∃ p ∈ cs, p.2 = b) ∨ ∃ o xs, H b = some (.frz o (.lst xs))) (h1 : HOk P w H s.heap) (u : Un (frs []) [] H H2 s.heap s2.heap) (h2 : HOk P w H2 s2.heap) : OldK s.heap s2.heap := by
  have same : ∀ b o, ¬ (∃ p ∈ cs, p.2 = b) → s.heap.get? b = some o → s2.heap.get? b = some o := fun b o n e => by
    rcases only b with z | z | ⟨ob, xs, z⟩
    · exact u.keep b o e z List.not_mem_nil List.not_mem_nil
    · exact (n z).elim
    · have q1 := (h1 b _ z).1
      have q2 := (h2 b _ (u.frzs b ob _ z)).1
      rw [e] at q1
      rw [q2, Option.some.inj q1]
  have more : ∀ p ∈ cs, ∃ ps : Array Value, s2.heap.get? p.2 = some ({ cls := .none, data := .fields ps } : Obj) := fun p hp => by
    obtain ⟨ps, z⟩ := u.tbls p.2 #[] (tt p hp)
    exact ⟨_, h2 p.2 _ z⟩
  refine ⟨fun b o e => ?_, fun b o e => ?_⟩
  all_goals by_cases hb : ∃ p ∈ cs, p.2 = b
  · obtain ⟨p, hp, rfl⟩ := hb
    obtain ⟨ps, z⟩ := more p hp
    have e2 := e
    rw [tb p hp] at e2
    cases e2
    exact .inr (.inl ⟨((ch p hp).tab (tb p hp)).isCodeTable, rfl, #[], ps, rfl, by rw [Array.empty_append]; exact z⟩)
  · exact .inl (same b o hb e)
  · obtain ⟨p, hp, rfl⟩ := hb
    exact ⟨_, (more p hp).choose_spec⟩
  · exact ⟨o, same b o hb e⟩
end
/-- what is shown of the law behind the head: its promise, and the tables that it leans on -/
def LawG (l : PySem.W.OpenLaw) (w : World) (K : PySem.W.Frag) (k : Nat) (mg : Str → Option Value) (fa : Addr) (h : Heap) : Prop :=
  ∃ (cs : List (Addr × Addr)) (sp : Sp), (∀ p ∈ cs, h.get? p.2 = some ({ cls := .none, data := .fields #[] } : Obj)) ∧ (∀ p ∈ cs, K.lookup p.2 = Option.none) ∧ (∀ p ∈ cs, PySem.W.CodeHd h p.1 p.2) ∧
    (∀ (H : Hp) (a : Addr) (ns : List Int), ns.length ≤ 63 → (∀ z ∈ ns, Builtin.Int.intBits z ≤ 1048576) → (∀ p ∈ cs, H p.2 = some (.tbl #[])) → SqL K H a (ns.map V.int) → sp [.ref a] H (fun v _ => v = .bl true) fun _ _ _ => False) ∧
    ∀ base : Heap, K.In base → base.Ns mainGlobals mg → (∀ p ∈ cs, LamX.TabB base mg p.1 p.2) → FnG l.prog w K mg base CX0 k fa sp
/-- the table of the def x is empty behind the top -/
def TabOf (K : PySem.W.Frag) (mg : Str → Option Value) (h : Heap) (x : Str) : Prop := ∀ (f c P : Addr) (o : Obj) (fd : FuncData) (e : Value) (dd : Option Addr) (vs : Array Value) (sl : Array (Option Value)), mg x = some (.ref f) → K.lookup f = some o → o.data = .func fd → fd.code = .ref c →
  K.lookup c = some ⟨e, dd, .fields vs, sl⟩ → vs[11]? = some (.ref P) → h.get? P = some ({ cls := .none, data := .fields #[] } : Obj) ∧ PySem.W.CodeHd h c P
theorem walkG {l : PySem.W.OpenLaw} {k : Nat} {q : Program} {loose : List Str} {XP : (Str → Option Value) → Heap → Prop} {YP : World → Heap → Prop} {d : DefRec} {K : Params → PySem.W.Frag} (xs : List Str) (hxs : (xs.all fun x => (recsOf q).any fun e => e.name == x) = true)
    (hn : l.most = some 63) (hdf : d.params.defaults = []) (hr : Room k callerA) (hY : ∀ (w : World) (h : Heap), YP w h → (K w.params).In h)
    (F : ∀ (w : World) (mg : Str → Option Value) (fa : Addr) (h : Heap), (K w.params).In h → h.Ns mainGlobals mg → mg d.name = some (.ref fa) → (∀ x ∈ xs, TabOf (K w.params) mg h x) → LawG l w (K w.params) k mg fa h) :
    PySem.W.WalkO q loose XP YP l.row.toRowW d [] (fun f vs => PySem.call f vs) := by
  refine Att.attach_callB hn hdf fun w s₀ s mg mb fa o pm cd doc a vs ns G Y _ _ _ hmg hobj hints hlen hbits hg => ?_
  have KX := hY w _ Y
  have tabs : ∀ x ∈ xs, TabOf (K w.params) mg s.heap x := fun x hx f c P o fd e dd us sl m1 m2 m3 m4 m5 m6 => by
    obtain ⟨r, hr1, hr2⟩ := List.any_eq_true.mp (List.all_eq_true.mp hxs x hx)
    obtain ⟨f2, o2, fd2, c2, P2, t1, t2, t3, t4, t5, t6⟩ := G.T.tab r hr1
    rw [beq_iff_eq.mp hr2, m1] at t1
    cases t1
    rw [KX _ _ m2] at t2
    cases t2
    rw [m3] at t3
    cases t3
    rw [m4] at t4
    cases t4
    have hd := PySem.W.CodeHd.of t5 t6
    obtain ⟨⟨oc, vc, u1, _, u3, u4⟩, hP⟩ := t6
    rw [KX _ _ m5] at u1
    cases u1
    cases u3
    rw [m6] at u4
    cases u4
    exact ⟨hP, hd⟩
  obtain ⟨cs, sp, tb, tk, ch, hsp, FG⟩ := F w mg fa _ KX G.T.g hmg tabs
  obtain ⟨H, base, kin, ns1, TB, e0, tt, hS, only⟩ := entry (P := l.prog) (w := w) KX G.T.g G.T.b G.T.builtins G.T.nolimit hg tb tk ch G.T.bmain hobj hints (Nat.le_trans hlen (by decide))
  refine codeAny_mono (FG base kin ns1 TB callerA [] s H [.ref a] [.ref a] _ _ rfl hr e0 (.cons rfl .nil) (hsp H a ns hlen hbits tt hS)) fun r s2 h => ?_
  match r, h with
  | .ok (.ret u), ⟨v, H2, os, bare, un, hok, rel, e⟩ =>
    have e' : v = .bl true := e
    subst e'
    have eu : u = Value.bool true := rel
    subst eu
    exact ⟨rfl, leave tb ch tt only e0.hok un hok, os, bare⟩

/-! ### repr -/
/-- v is read as the datum d: as Dp, and dicts of no entry or one -/
inductive Dq (K : PySem.W.Frag) (H : Hp) : V → PyData → Prop where
  | dp {v : V} {d : PyData} : Dp K H v d → Dq K H v d
  | d0 {a : Addr} : H a = some (.dK []) → Dq K H (.ref a) (.dict [])
mutual
theorem dp_nodict {K : PySem.W.Frag} {H : Hp} : ∀ (d : PyData) (v : V), Dp K H v d → d.hasDict = false
  | .none, _, _ => rfl
  | .bool _, _, _ => rfl
  | .int _, _, _ => rfl
  | .str _, _, _ => rfl
  | .list ds, _, h => by
    cases h with
    | lst _ ha => exact dp_nodictAll ds _ ha
  | .tuple ds, _, h => by
    cases h with
    | tup _ ha => exact dp_nodictAll ds _ ha
  | .dict _, _, h => by cases h
theorem dp_nodictAll {K : PySem.W.Frag} {H : Hp} : ∀ (ds : List PyData) (vs : List V), DpAll K H vs ds → PyData.hasDictAll ds = false
  | [], _, _ => rfl
  | d :: ds, _, h => by
    cases h with
    | cons h1 h2 =>
      show (PyData.hasDict d || PyData.hasDictAll ds) = false
      rw [dp_nodict d _ h1, dp_nodictAll ds _ h2]
      rfl
end
theorem Dq.reads {X : Cx} {pins : List (Addr × Obj)} {σ : L2.St} {H : Hp} {s : Shared} (I : Inv X pins σ H s) {v : V} {d : PyData} {u : Value} (h : Dq X.K H v d) (r : RelV v u) : ∃ as, Reads s.heap u d as ∧ (d.hasDict = true → sysModules ∉ as) := by
  cases h with
  | dp h =>
    obtain ⟨as, q⟩ := Dp.reads I _ _ _ h r
    exact ⟨as, q, fun z => by rw [dp_nodict _ _ h] at z; cases z⟩
  | @d0 a h =>
    obtain rfl : u = Value.ref a := r
    obtain ⟨_, ns, vs, kv, o, es, ep, e1, e2, e3, e4⟩ := (show ObjOk X.prog X.w H s.heap a (.dK []) from I.hok a _ h)
    cases kv
    have e5 : es.toList = [] := by
      have e6 := e4.2.1
      generalize es.toList = l at e6
      cases e6
      rfl
    refine ⟨[a] ++ [] ++ [], Reads.dict e1 e2.1 e3 (by rw [e5]; exact .nil) (by rw [e5]; exact .nil), fun _ z => ?_⟩
    have z' : sysModules = a := by simpa using z
    rw [← z'] at ns
    simp at ns
def rRep (K : PySem.W.Frag) : List V → Hp → VK → Prop := fun vs H Q => ∃ v d, vs = [v] ∧ Dq K H v d ∧ d.showable = true ∧ d.depth ≤ 60 ∧ ((∃ i, d = .int i) ∨ d.shown.length ≤ sizeLine) ∧ Q (.str d.shown) H
theorem call_rep {X : Cx} (gu : X.A.guards = some []) (hu : X.A.units + 64 < cLine) : CallR X (.builtin "repr") (rRep X.K) := by
  intro pins s σ H xs us Q I r h
  obtain ⟨v, d, rfl, hd, h1, h2, h3, q⟩ := h
  obtain ⟨u, rfl, ru⟩ := vals1 r
  obtain ⟨as, rd, ns⟩ := hd.reads I ru
  have done : ∀ (h' : Heap) (t : Tok) (tk : Nat), (∀ b o, s.heap.get? b = some o → h'.get? b = some o) → EP X pins σ Q (.str d.shown t) { s with heap := h', toks := tk } := fun h' t tk k => ⟨.str d.shown, H, I.kept (t' := tk) k, ⟨t, rfl⟩, q⟩
  have same : ∀ t tk, EP X pins σ Q (.str d.shown t) { s with toks := tk } := fun t tk => done s.heap t tk fun _ _ z => z
  have h3 : (∀ i, d ≠ .int i) → d.shown.length ≤ sizeLine := fun n => h3.resolve_left fun ⟨i, z⟩ => n i z
  cases rd with
  | none => exact PySem.P.repr_of_none (same _ _)
  | bool b => exact PySem.P.repr_of_bool (same _ _)
  | int i t => exact PySem.P.repr_of_int (of_decide_eq_true h1) (same _ _)
  | str x t => exact PySem.P.repr_of_str (same _ _) (h3 fun _ z => nomatch z)
  | list e1 e2 e3 e4 => exact PySem.repr_of_reads' (.list e1 e2 e3 e4) h1 ns gu (by omega) (fun _ _ z => z) (fun h' u tk k => done h' u tk k) (h3 fun _ z => nomatch z)
  | tuple e1 e2 e3 e4 => exact PySem.repr_of_reads' (.tuple e1 e2 e3 e4) h1 ns gu (by omega) (fun _ _ z => z) (fun h' u tk k => done h' u tk k) (h3 fun _ z => nomatch z)
  | dict e1 e2 e3 e4 e5 => exact PySem.repr_of_reads' (.dict e1 e2 e3 e4 e5) h1 ns gu (by omega) (fun _ _ z => z) (fun h' u tk k => done h' u tk k) (h3 fun _ z => nomatch z)

/-! ### calls by keywords alone, and by a variable that holds a def -/
/-- x(k = v, ..) -/
theorem pe_callK0 {X : Cx} {CX : CXT} {k : Nat} {f : Addr} {fd : FuncData} {ps ks : List Str} {sp : Sp} {E : XK} {x : Str} {kws : List Keyword} {tk : TA} {g : List Value → List Value → List Value} {gV : List V → List V → List V} {p pos : Pos}
    (F : FnOk X.prog X.w X.K X.mg X.base CX k f fd ps sp) (hr : Room k X.A) (hg : Gl X x) (hm : X.mg x = some (.ref f)) (hk : PySem.W.keepIn X.K (.ref f) = true) (hb : KBinds X.K fd ps ks g gV) (hx : Passes CX X E)
    (hkw : PK X kws tk) (hall : (backToKw pos (keywordEach kws X.env)).all (·.1.isSome) = true := by rfl) (hks : (backToKw pos (keywordEach kws X.env)).filterMap (·.1) = ks := by rfl)
    (hdb : (x == ("__debug__" : Str)) = false := by decide) (hpl : ((backTo pos (starEach [] X.env)).any (·.1) || (backToKw pos (keywordEach kws X.env)).any (·.1.isNone)) = false := by rfl) :
    PE X (.Call (.Name x p) [] kws pos) (tCallK sp gV E tNil tk) := by
  refine ⟨fun pins s σ H Q I h => ?_⟩
  refine wpAny_Call_Name_kw (ld_glob I hg hm ?_ hdb)
  refine PySem.W.callWith_KW0 (h₀ := X.base) I.ok.mod.kin hk hall ?_ hpl
  refine thn (hkw.run pos pins s σ H _ I h) fun ws s2 ⟨zs, H2, I2, rz, q2⟩ => ⟨I2.kIn, ?_⟩
  rw [hks]
  exact run_fnk (us := []) F hr hb hx I2 .nil rz q2
/-- x(), x a variable that holds the def at f -/
theorem pe_callV0 {X : Cx} {CX : CXT} {k i : Nat} {f : Addr} {sp : Sp} {E : XK} {x : Str} {p pos : Pos} (F : FnR X.prog X.w X.K X.mg X.base CX k f sp) (hr : Room k X.A) (hk : PySem.W.keepIn X.K (.ref f) = true) (hx : Passes CX X E) (hN : X.N[i]? = some x) (hv : Vis X.env.scope x)
    (hd : (x == ("__debug__" : Str)) = false := by decide) (hcd : (x == ("__classdict__" : Str)) = false := by decide) : PE X (.Call (.Name x p) [] [] pos) (fun σ H Q => σ[i]? = some (some (.ref f)) ∧ sp [] H Q E) := by
  refine ⟨fun pins s σ H Q I h => ?_⟩
  obtain ⟨hs, h⟩ := h
  refine wpAny_Call_Name_kw (thn ((pe_var (pos := p) (i := i) hN hv hd hcd).run pins s σ H (fun v H1 => v = .ref f ∧ H1 = H) I ⟨.ref f, hs, rfl, rfl⟩) fun u s1 ⟨v, H1, I1, r1, ev, eH⟩ => ?_)
  subst ev
  rw [eH] at I1
  cases r1
  exact PySem.W.callWith_K0 I1.kIn hk (wpAny_call (run_fnR (us := []) F hr hx I1 .nil h))

/-- a field, the written part given by hand -/
theorem pe_fldC {X : Cx} {e : Expr} {te : TE} {f : Str} {pos : Pos} (K : PySem.W.Frag) (hK : X.K = K) (he : PE X e te) (hb : attributeBase e f X.env (eval e X.env) = eval e X.env := by rfl) : PE X (.Attribute e f pos) (tFld K te f) := by
  subst hK
  exact pe_fld he hb

/-! ### the draws -/
def spPen (K : PySem.W.Frag) : Sp := fun vs H Q _ => ∃ (a : Addr) (ns : List Int), vs = [.ref a] ∧ SqL K H a (ns.map V.int) ∧ ns.length ≤ 63 ∧ ∀ (p : Addr) (H' : Hp), Same H H' → Pen H' p 0 → Q (.ref p) H'
theorem ok_pen (T : Txt K mg) : FnOk P w K mg base CX0 1 T.a_pen T.fd_pen ["_law_script"] (spPen K) := by
  refine T.F_pen.ok sc_pen (fun vs H Q E h => ?_) (fun cdv A outer s H vs Q E hr h => ?_)
  · obtain ⟨a, ns, rfl, _⟩ := h; rfl
  · obtain ⟨a, ns, rfl, hS, hl, k⟩ := h
    refine ⟨_, pss_one (ps_ret (pe_lst (pa_cons (pe_callTy call_list_of (by rfl) T.n_list (by decide +kernel) (pa_cons (pe_slice sl_list (pv 0) (po_none) (po_some (pe_int))) (pa_nil))) (pa_cons (pe_int) (pa_cons (pe_int) (pa_nil)))))), ?_⟩
    obtain ⟨ms, em, lm⟩ := cut_ints ns none (some 63)
    refine ⟨_, rfl, _, rfl, a, _, rfl, hS, fun q hq => ?_⟩
    refine ⟨q, _, rfl, .inl (SqL.of upd_same), fun l hl => ?_⟩
    refine ⟨(by show 3 ≤ sizeLine; decide), fun p hp => k p _ ?_ ?_⟩
    · exact (same_new hq).trans ((same_new hl).trans (same_new hp))
    · refine ⟨l, ms, 0, 0, upd_same, ?_, by omega, by omega, by omega, by omega⟩
      rw [upd_ne (ne_of_none upd_same hp), upd_same, em]
def spDraw : Sp := fun vs H Q _ => ∃ (p : Addr) (m : Int) (n : Nat), vs = [.ref p, .int m] ∧ 0 < m ∧ m < 1267650600228229401496703205376 ∧ Pen H p n ∧ n < 100000 ∧ ∀ (r : Int) (H' : Hp), 0 ≤ r → r < m → Pen H' p (n + 1) → Fr p H H' → Q (.int r) H'
theorem ok_draw (T : Txt K mg) : FnOk P w K mg base CX0 1 T.a_draw T.fd_draw ["_law_pen_here", "_law_many"] spDraw := by
  refine T.F_draw.ok sc_draw (fun vs H Q E h => ?_) (fun cdv A outer s H vs Q E hr h => ?_)
  · obtain ⟨p, m, n, rfl, _⟩ := h; rfl
  · obtain ⟨p, m, n, rfl, hm, hm2, ⟨c, ns, i, g, hp, hc, i0, i1, g0, hl⟩, hn, k⟩ := h
    have cp : c ≠ p := pen_ne hp hc
    have mb : m.natAbs < 2 ^ 100 := by omega
    refine ⟨_, pss_cons (ps_if (pt_cmpR op_gt (pe_ix ix_list (pv 0) (pe_int) (fun _ _ => rfl)) (pe_int) (nomark _)) (pss_cons (ps_set (i := 2) sc_draw.nd rfl (Or.inl rfl) (pe_op op_modN (pe_callTy call_int1 (by rfl) T.n_int (by decide +kernel) (pa_cons (pe_ix ix_list (pv 0) (pe_int) (fun _ _ => rfl)) (pa_nil))) (pv 1)))
      (pss_cons (ps_asg (pe_op op_fdivW (pe_callTy call_int1 (by rfl) T.n_int (by decide +kernel) (pa_cons (pe_ix ix_list (pv 0) (pe_int) (fun _ _ => rfl)) (pa_nil))) (pv 1)) (pg_sub (pv 0) (pe_int) set_list))
      (pss_one (ps_ret (pv 2))))) (pss_nil))
      (pss_cons (ps_set (i := 3) sc_draw.nd rfl (Or.inl rfl) (pe_ix ix_list (pv 0) (pe_int) (fun _ _ => rfl)))
      (pss_cons (ps_asg (pe_op op_add (pv 3) (pe_int)) (pg_sub (pv 0) (pe_int) set_list))
      (pss_cons (ps_set (i := 4) sc_draw.nd rfl (Or.inl rfl) (pe_op op_add (pe_op op_mul (pe_int) (pv 3)) (pe_int)))
      (C8.pss_cut (ps_if (pt_cmpR (op_neD hr.units) (pe_ix ix_list (pv 0) (pe_int) (fun _ _ => rfl)) (pe_lst (pa_nil)) (nomark _)) (pss_one (ps_set (i := 4) sc_draw.nd rfl (Or.inl rfl) (pe_ix ix_list (pe_ix ix_list (pv 0) (pe_int) (fun _ _ => rfl)) (pe_op op_modN (pe_callTy call_int1 (by rfl) T.n_int (by decide +kernel) (pa_cons (pv 3) (pa_nil))) (pe_callB call_len_seq (by rfl) T.n_len (by decide +kernel) (pa_cons (pe_ix ix_list (pv 0) (pe_int) (fun _ _ => rfl)) (pa_nil)))) (fun _ _ => rfl)))) (pss_nil))
      (C8.pss_cut (ps_if (PW.pt (pw_and (pt_cmpR op_lt (pv 3) (pe_callB call_len_seq (by rfl) T.n_len (by decide +kernel) (pa_cons (pe_ix ix_list (pv 0) (pe_int) (fun _ _ => rfl)) (pa_nil))) (nomark _)) (pw_and1 (pt_cmpR op_ge (pe_callB call_abs (by rfl) T.n_abs (by decide +kernel) (pa_cons (pv 4) (pa_nil))) (pe_op op_pow (pe_int) (pe_int)) (nomark _))))) (pss_cons (ps_set (i := 5) sc_draw.nd rfl (Or.inl rfl) (pe_op op_add (pe_op op_mul (pe_int) (pe_op op_sub (pe_callB call_abs (by rfl) T.n_abs (by decide +kernel) (pa_cons (pv 4) (pa_nil))) (pe_op op_pow (pe_int) (pe_int)))) (pe_callTy call_int1 (by rfl) T.n_int (by decide +kernel) (pa_cons (pe_cmpR op_lt (pv 4) (pe_int) (nomark _)) (pa_nil)))))
      (pss_cons (ps_asg (pe_op op_fdivW (pe_callTy call_int1 (by rfl) T.n_int (by decide +kernel) (pa_cons (pv 5) (pa_nil))) (pv 1)) (pg_sub (pv 0) (pe_int) set_list))
      (pss_one (ps_ret (pe_op op_modN (pe_callTy call_int1 (by rfl) T.n_int (by decide +kernel) (pa_cons (pv 5) (pa_nil))) (pv 1)))))) (pss_nil))
      (pss_cons (ps_set (i := 6) sc_draw.nd rfl (Or.inl rfl) (pe_op op_modN (pe_callTy call_int1 (by rfl) T.n_int (by decide +kernel) (pa_cons (pe_op op_pow (pe_op op_add (pe_op op_add (pe_op op_modN (pe_callTy call_int1 (by rfl) T.n_int (by decide +kernel) (pa_cons (pv 4) (pa_nil))) (pe_int)) (pe_op op_mul (pe_int) (pv 3))) (pe_int)) (pe_int)) (pa_nil))) (pe_int)))
      (pss_cons (ps_set (i := 6) sc_draw.nd rfl (Or.inl rfl) (pe_op op_modN (pe_callTy call_int1 (by rfl) T.n_int (by decide +kernel) (pa_cons (pe_op op_pow (pe_op op_add (pe_op op_add (pe_op op_mul (pv 6) (pe_op op_add (pe_op op_mul (pe_int) (pv 3)) (pe_int))) (pe_op op_mul (pe_op op_mul (pe_int) (pv 3)) (pv 3))) (pe_int)) (pe_int)) (pa_nil))) (pe_int)))
      (pss_one (ps_ret (pe_op op_modN (pe_callTy call_int1 (by rfl) T.n_int (by decide +kernel) (pa_cons (pe_op op_fdivW (pv 6) (pe_int)) (pa_nil))) (pv 1))))))))))), ?_⟩
    refine ⟨_, rfl, p, _, _, _, rfl, rfl, SqL.of hp, rfl, _, _, rfl, rfl, _, rfl, ?_⟩
    refine ite2 (fun hg => ?_) (fun hg => ?_)
    · refine ⟨_, rfl, p, _, _, _, rfl, rfl, SqL.of hp, rfl, .inl ⟨_, rfl, ?_⟩⟩
      refine ⟨_, rfl, _, _, rfl, rfl, (by omega), ?_⟩
      refine ⟨_, rfl, p, _, _, _, rfl, rfl, SqL.of hp, rfl, .inl ⟨_, rfl, ?_⟩⟩
      refine ⟨_, rfl, _, _, rfl, rfl, wide_div hm mb (by decide) (by decide), ?_⟩
      refine ⟨_, rfl, p, _, _, _, rfl, rfl, hp, rfl, _, rfl, ?_⟩
      have fm := fmod_pos (x := g) hm
      refine k _ _ fm.1 fm.2 ⟨c, ns, i, g / m, upd_same, ?_, i0, by omega, Int.ediv_nonneg g0 (by omega), hl⟩ (fr_upd hp)
      rw [upd_ne cp]; exact hc
    · refine ⟨_, rfl, p, _, _, _, rfl, rfl, SqL.of hp, rfl, ?_⟩
      refine ⟨_, rfl, _, _, rfl, rfl, _, rfl, p, _, _, _, rfl, rfl, hp, rfl, ?_⟩
      -- the index is one more
      have f1 : Fr p H (upd H p (.lst [.ref c, .int (i + 1), .int g])) := fr_upd hp
      have hp1 : (upd H p (.lst [.ref c, .int (i + 1), .int g])) p = some (.lst [.ref c, .int (i + 1), .int g]) := upd_same
      have hc1 : (upd H p (.lst [.ref c, .int (i + 1), .int g])) c = some (.lst (ns.map V.int)) := by rw [upd_ne cp]; exact hc
      show _
      refine ⟨_, rfl, _, _, rfl, rfl, .inl ⟨by decide, by decide⟩, _, _, rfl, rfl, ?_⟩
      refine ⟨fun σ' H' => ∃ raw : Int, σ' = [some (.ref p), some (.int m), Option.none, some (.int i), some (.int raw), Option.none, Option.none] ∧ Same (upd H p (.lst [.ref c, .int (i + 1), .int g])) H', ?_, ?_⟩
      · refine ⟨_, rfl, p, _, _, _, rfl, rfl, SqL.of hp1, rfl, Nat.zero_le _, fun l hl0 => ?_⟩
        refine ⟨.list (ns.map PyData.int), .list [], .lst (SqL.of (same_new hl0 _ _ hc1)) (dp_ints ns), .lst (SqL.of upd_same) .nil, PySem.W.ke_shaped_ints ns, by decide +kernel, _, rfl, ?_⟩
        have s1 := same_new (o := .lst []) hl0
        cases ns with
        | nil => exact iteF ⟨_, rfl, s1⟩
        | cons z r =>
          refine iteT ?_
          refine ⟨_, rfl, p, _, _, _, rfl, rfl, SqL.of (s1 _ _ hp1), rfl, ?_⟩
          refine ⟨_, rfl, .inl ⟨_, rfl, ?_⟩⟩
          refine ⟨_, rfl, p, _, _, _, rfl, rfl, SqL.of (s1 _ _ hp1), rfl, c, _, rfl, .inl (SqL.of (s1 _ _ hc1)), _, _, rfl, rfl, ?_⟩
          have lp : (0 : Int) < (((z :: r).map V.int).length : Nat) := by rw [List.length_map, List.length_cons]; omega
          have fm := fmod_pos (x := i) lp
          have fm2 : i.fmod (((z :: r).map V.int).length : Nat) < (((z :: r).length : Nat) : Int) := by have := fm.2; rw [List.length_map] at this; rw [List.length_map]; exact this
          obtain ⟨y, hy⟩ := atI_in fm.1 fm2
          exact ⟨by omega, c, _, _, _, rfl, rfl, SqL.of (s1 _ _ hc1), hy, y, rfl, s1⟩
      · rintro σ' H' ⟨raw, rfl, s1⟩
        have hp2 := s1 _ _ hp1
        have hc2 := s1 _ _ hc1
        have f2 : Fr p H H' := f1.trans (same_fr s1)
        have penE : ∀ g' : Int, 0 ≤ g' → Pen (upd H' p (.lst [.ref c, .int (i + 1), .int g'])) p (n + 1) := fun g' h' => ⟨c, ns, i + 1, g', upd_same, by rw [upd_ne cp]; exact hc2, by omega, by omega, h', hl⟩
        refine ⟨fun σ'' H'' => σ'' = [some (.ref p), some (.int m), Option.none, some (.int i), some (.int raw), Option.none, Option.none] ∧ H'' = H', ?_, ?_⟩
        rotate_left
        · rintro σ'' H'' ⟨rfl, rfl⟩
          refine ⟨_, rfl, .inl ⟨_, rfl, ?_⟩⟩
          refine ⟨_, _, rfl, rfl, (by show (_ : Int) ≠ 0; decide), _, rfl, _, _, rfl, rfl, .inl ⟨by decide, by decide⟩, _, _, rfl, rfl, _, _, rfl, rfl, ?_⟩
          have r1 := fmod_pos (x := raw) (m := 2147483563) (by decide)
          refine ⟨_, _, rfl, rfl, ⟨by decide, by decide, stir1 r1.1 (by omega) i0 (by omega) (by decide) (by decide) (by decide) (by decide)⟩, .inl ⟨_, rfl, ?_⟩⟩
          refine ⟨_, _, rfl, rfl, (by show (_ : Int) ≠ 0; decide), ?_⟩
          have r2 : ∀ x : Int, 0 ≤ x.fmod 2147483587 ∧ x.fmod 2147483587 < 2147483587 := fun x => fmod_pos (by decide)
          refine ⟨_, rfl, _, rfl, _, _, rfl, rfl, .inl ⟨by decide, by decide⟩, _, _, rfl, rfl, _, _, rfl, rfl, .inl (small64 (r2 _).1 (Int.lt_trans (r2 _).2 (by decide))), ?_⟩
          refine ⟨_, rfl, _, _, rfl, rfl, .inl ⟨by decide, by decide⟩, _, rfl, _, _, rfl, rfl, .inr ⟨by omega, by omega⟩, _, _, rfl, rfl, _, _, rfl, rfl, ?_⟩
          refine ⟨_, _, rfl, rfl, ⟨by decide, by decide, stir2 (r2 _).1 (Int.lt_trans (r2 _).2 (by decide)) i0 (by omega) (by decide) (by decide) (by decide) (by decide) (by decide) (by decide)⟩, .inl ⟨_, rfl, ?_⟩⟩
          refine ⟨_, _, rfl, rfl, (by show (_ : Int) ≠ 0; decide), ?_⟩
          refine ⟨_, rfl, _, _, rfl, rfl, wide_div (b := 10) (by decide) (by decide) (by decide) (by decide), .inl ⟨_, rfl, ?_⟩⟩
          refine ⟨_, rfl, _, _, rfl, rfl, (by omega), ?_⟩
          have fm := fun x => fmod_pos (x := x) hm
          exact k _ _ (fm _).1 (fm _).2 ⟨c, ns, i + 1, g, hp2, hc2, by omega, by omega, g0, hl⟩ f2
        refine ⟨_, rfl, _, rfl, p, _, _, _, rfl, rfl, SqL.of hp2, rfl, c, _, rfl, .inl (SqL.of hc2), _, _, rfl, rfl, _, rfl, ?_⟩
        refine ite2 (fun hlt => ?_) (fun hlt => ?_)
        · refine ⟨_, rfl, _, rfl, _, _, rfl, rfl, ⟨by decide, by decide, by decide⟩, _, _, rfl, rfl, _, rfl, ?_⟩
          refine ite2 (fun hge => ?_) (fun hge => ?_)
          · have hge := of_decide_eq_true hge
            refine ⟨_, rfl, _, rfl, _, _, rfl, rfl, ⟨by decide, by decide, by decide⟩, _, _, rfl, rfl, _, _, rfl, rfl, .inl ⟨by decide, by decide⟩, ?_⟩
            refine ⟨_, rfl, _, _, rfl, rfl, .inr ⟨_, rfl, ?_⟩⟩
            refine ⟨_, _, rfl, rfl, ?_⟩
            have gpos : (0 : Int) ≤ 2 * ((if raw < 0 then -raw else raw) - 10 ^ (18 : Int).toNat) + (if decide (raw < 0) = true then 1 else 0) := by
              have : (0 : Int) ≤ (if decide (raw < 0) = true then 1 else 0) := by split <;> omega
              omega
            refine ⟨_, rfl, .inl ⟨_, rfl, ?_⟩⟩
            refine ⟨_, rfl, _, _, rfl, rfl, wide_div hm mb (by decide) (by decide), ?_⟩
            refine ⟨_, rfl, p, _, _, _, rfl, rfl, hp2, rfl, ?_⟩
            refine ⟨_, rfl, .inl ⟨_, rfl, ?_⟩⟩
            refine ⟨_, rfl, _, _, rfl, rfl, (by omega), ?_⟩
            have fm := fun x => fmod_pos (x := x) hm
            exact k _ _ (fm _).1 (fm _).2 (penE _ (Int.ediv_nonneg gpos (by omega))) (f2.trans (fr_upd hp2))
          · exact ⟨rfl, rfl⟩
        · exact ⟨rfl, rfl⟩

def spPick (K : PySem.W.Frag) : Sp := fun vs H Q _ => ∃ (p l : Addr) (xs : List V) (n : Nat), vs = [.ref p, .ref l] ∧ SqL K H l xs ∧ l ≠ p ∧ 0 < xs.length ∧ xs.length < 1000000 ∧ Pen H p n ∧ n < 100000 ∧ ∀ (x : V) (H' : Hp), x ∈ xs → Pen H' p (n + 1) → Fr p H H' → Q x H'
theorem ok_pick (T : Txt K mg) : FnOk P w K mg base CX0 2 T.a_pick T.fd_pick ["_law_pen_here", "_law_some"] (spPick K) := by
  refine T.F_pick.ok sc_pick (fun vs H Q E h => ?_) (fun cdv A outer s H vs Q E hr h => ?_)
  · obtain ⟨p, l, xs, n, rfl, _⟩ := h; rfl
  · obtain ⟨p, l, xs, n, rfl, hS, hne, h0, h1, hP, hn, k⟩ := h
    refine ⟨_, pss_one (ps_ret (pe_ix ix_list (pv 1) (pe_call (ok_draw T) (hr.mono (by decide)) rfl T.m_draw T.F_draw.kp (b_draw T) .nil pass0 (pa_cons (pv 0) (pa_cons (pe_callB call_len_seq (by rfl) T.n_len (by decide +kernel) (pa_cons (pv 1) (pa_nil))) (pa_nil)))) (fun _ _ => rfl))), ?_⟩
    refine ⟨_, rfl, _, rfl, _, rfl, l, xs, rfl, .inl hS, p, _, n, rfl, (by omega), (by omega), hP, hn, fun r H' r0 r1 hP' fr => ?_⟩
    obtain ⟨x, hx, he⟩ := atI_any r0 r1
    exact ⟨l, xs, _, x, rfl, rfl, fr.seq hne hS, he, k x H' hx hP' fr⟩
/-! ### what is neither the pen nor a table stays -/
open Classical in
noncomputable def core (p : Addr) (H : Hp) : Hp := fun b => if b = p ∨ ∃ ps, H b = some (.tbl ps) then Option.none else H b
theorem core_sub {p : Addr} {H : Hp} : Same (core p H) H := fun b o e => by
  unfold core at e
  split at e
  · cases e
  · exact e
theorem core_at {p : Addr} {H : Hp} {a : Addr} {o : HO} (h : H a = some o) (n : a ≠ p) (nt : ∀ ps, o ≠ .tbl ps) : core p H a = some o := by
  unfold core
  rw [if_neg]
  · exact h
  · rintro (z | ⟨ps, z⟩)
    · exact n z
    · rw [h] at z
      exact nt ps (Option.some.inj z)
theorem core_of {p : Addr} {H : Hp} {a : Addr} {o : HO} (h : core p H a = some o) : a ≠ p ∧ (∀ ps, o ≠ .tbl ps) ∧ H a = some o := by
  have h2 := core_sub _ _ h
  unfold core at h
  split at h
  · cases h
  · rename_i n
    exact ⟨fun z => n (.inl z), fun ps z => n (.inr ⟨ps, z ▸ h2⟩), h2⟩
theorem core_fr {p : Addr} {H H' : Hp} (e : Fr p H H') : Same (core p H) H' := fun b o q => by
  obtain ⟨q1, _, q3⟩ := core_of q
  exact e b o q1 q3
theorem core_same {p : Addr} {H H' : Hp} (e : Same H H') : Same (core p H) H' := fun b o q => e b o (core_of q).2.2
theorem core_up {p : Addr} {H H' : Hp} (e : Same (core p H) H') : Same (core p H) (core p H') := fun b o q => by
  obtain ⟨q1, q2, _⟩ := core_of q
  exact core_at (e b o q) q1 q2
theorem SqL.same {K : PySem.W.Frag} {H H' : Hp} {a : Addr} {xs : List V} (s : Same H H') (h : SqL K H a xs) : SqL K H' a xs := by
  rcases h with (h | ⟨o, h⟩) | h
  · exact .inl (.inl (s _ _ h))
  · exact .inl (.inr ⟨o, s _ _ h⟩)
  · exact .inr h

theorem SqT.same {K : PySem.W.Frag} {H H' : Hp} {a : Addr} {xs : List V} (s : Same H H') (h : SqT K H a xs) : SqT K H' a xs := by
  rcases h with (h | ⟨o, h⟩) | h
  · exact .inl (.inl (s _ _ h))
  · exact .inl (.inr ⟨o, s _ _ h⟩)
  · exact .inr h
mutual
theorem dp_same {K : PySem.W.Frag} {H H' : Hp} (s : Same H H') : ∀ (d : PyData) (v : V), Dp K H v d → Dp K H' v d
  | .none, _, h => by cases h; exact .non
  | .bool _, _, h => by cases h; exact .bl _
  | .int _, _, h => by cases h; exact .int _
  | .str _, _, h => by cases h; exact .str _
  | .list ds, _, h => by
    cases h with
    | lst h1 ha => exact .lst (SqL.same s h1) (dp_sameAll s ds _ ha)
  | .tuple ds, _, h => by
    cases h with
    | tup h1 ha => exact .tup (SqT.same s h1) (dp_sameAll s ds _ ha)
  | .dict _, _, h => by cases h
theorem dp_sameAll {K : PySem.W.Frag} {H H' : Hp} (s : Same H H') : ∀ (ds : List PyData) (vs : List V), DpAll K H vs ds → DpAll K H' vs ds
  | [], _, h => by cases h; exact .nil
  | d :: ds, _, h => by
    cases h with
    | cons h1 h2 => exact .cons (dp_same s d _ h1) (dp_sameAll s ds _ h2)
end

/-- all but D -/
noncomputable def hideA (D : Addr) (H : Hp) : Hp := fun b => by classical exact if b = D then Option.none else H b
theorem hide_ne {D b : Addr} {H : Hp} (h : b ≠ D) : hideA D H b = H b := by unfold hideA; rw [if_neg h]
theorem hide_sub {D : Addr} {H : Hp} : Same (hideA D H) H := fun b o e => by
  by_cases h : b = D
  · unfold hideA at e; rw [if_pos h] at e; cases e
  · rw [hide_ne h] at e; exact e
theorem hide_up {D : Addr} {H H' : Hp} (h : ∀ b o, b ≠ D → H b = some o → H' b = some o) : Same (hideA D H) (hideA D H') := fun b o e => by
  by_cases q : b = D
  · unfold hideA at e; rw [if_pos q] at e; cases e
  · rw [hide_ne q] at e ⊢; exact h b o q e

/-! ### what is a list or a tuple, walked -/
section
variable {X : Cx} {tg : Expr}
def iSeq (K : PySem.W.Frag) (tl : TE) : TI := fun σ H R => tl σ H fun x H1 => ∃ a, x = .ref a ∧ (((∃ xs, SqL K H1 a xs) ∧ R (Itl K a) H1) ∨ ((∃ xs, SqT K H1 a xs) ∧ R (Itt K a) H1))
theorem pi_seq {l : Expr} {tl : TE} (hl : PE X l tl) : PI X tg l (iSeq X.K tl) := by
  refine ⟨fun pins s σ H R I h => ?_⟩
  refine thn (hl.run pins s σ H _ I h) fun v s1 ⟨x, H1, I1, r1, q1⟩ => ?_
  obtain ⟨a, e, ⟨⟨xs, hq⟩, q⟩ | ⟨⟨xs, hq⟩, q⟩⟩ := q1
  · subst e
    cases r1
    obtain ⟨its, rv, p, hz⟩ := I1.list hq
    refine wpAny_pyIter_list p.isList ?_
    refine ⟨s1.heap.objs.size, [s1.heap.objs.size], _, _, H1, rfl, I1.kept (t' := s1.toks) fun b o e => Heap.get?_push_of_some _ e, turn_list a _, ⟨_, Heap.get?_push_size _ rfl, rfl, rfl⟩, fun b hb => ?_, q⟩
    have e : b = s1.heap.objs.size := by simpa using hb
    subst e
    exact I1.fpOk (Nat.le_refl _) (I1.hok.fresh (Nat.le_refl _))
  · subst e
    cases r1
    obtain ⟨its, rv, p, hz⟩ := I1.tuple hq
    refine wpAny_pyIter_tuple (show s1.heap.IsTuple a its.toArray from p) ?_
    refine ⟨s1.heap.objs.size, [s1.heap.objs.size], _, _, H1, rfl, I1.kept (t' := s1.toks) fun b o e => Heap.get?_push_of_some _ e, turn_tuple a _, ⟨_, Heap.get?_push_size _ rfl, rfl, rfl⟩, fun b hb => ?_, q⟩
    have e : b = s1.heap.objs.size := by simpa using hb
    subst e
    exact I1.fpOk (Nat.le_refl _) (I1.hok.fresh (Nat.le_refl _))
end
theorem sqL_mv {K : PySem.W.Frag} {H H' : Hp} {a : Addr} {xs : List V} (h : SqL K H a xs) (s : Same H H') : SqL K H' a xs := by
  rcases h with (h | ⟨o, h⟩) | h
  · exact .inl (.inl (s _ _ h))
  · exact .inl (.inr ⟨o, s _ _ h⟩)
  · exact .inr h
theorem lc_seq {K : PySem.W.Frag} {a : Addr} {xs : List V} {g : TG} {tt : TT} {te : TE} {vs : List Nat} {σ : L2.St} {H1 : Hp} {Qd : Addr → Hp → Prop} (hS : SqL K H1 a xs ∨ SqT K H1 a xs) (Pv : Addr → Nat → Hp → Prop) (h0 : ∀ D, H1 D = Option.none → Pv D 0 (upd H1 D (.lst []))) (hl : ∀ D i H, H1 D = Option.none → i ≤ xs.length → Pv D i H → Same H1 H)
    (hs : ∀ D, H1 D = Option.none → ∀ i x H, xs[i]? = some x → Pv D i H → g x (wipe σ vs) H fun σ2 H2 => wipe σ2 vs = wipe σ vs ∧ tt σ2 H2 fun b H3 =>
      if b = true then te σ2 H3 fun y H4 => ∃ acc, H4 D = some (.lst acc) ∧ acc.length < sizeLine ∧ Pv D (i + 1) (upd H4 D (.lst (acc ++ [y]))) else Pv D (i + 1) H3) (hd : ∀ D, H1 D = Option.none → ∀ H, Pv D xs.length H → Qd D H) :
    ((∃ xs, SqL K H1 a xs) ∧ ∀ D, H1 D = Option.none → ∃ W : Nat → Nat → Hp → Prop, (∃ m, W 0 m (upd H1 D (.lst []))) ∧ ∀ i m H, W i m H →
      ((Itl K a).stop i H ∧ Qd D H) ∨ ((Itl K a).go i H ∧ ∃ Nx : Hp → Prop, (∀ H', Nx H' → ∃ m', m' < m ∧ W (i + 1) m' H') ∧ ∀ x H', (Itl K a).yld i H x H' → g x (wipe σ vs) H' fun σ2 H2 => wipe σ2 vs = wipe σ vs ∧ tt σ2 H2 fun b H3 =>
        if b = true then te σ2 H3 fun y H4 => ∃ acc, H4 D = some (.lst acc) ∧ acc.length < sizeLine ∧ Nx (upd H4 D (.lst (acc ++ [y]))) else Nx H3)) ∨
    ((∃ xs, SqT K H1 a xs) ∧ ∀ D, H1 D = Option.none → ∃ W : Nat → Nat → Hp → Prop, (∃ m, W 0 m (upd H1 D (.lst []))) ∧ ∀ i m H, W i m H →
      ((Itt K a).stop i H ∧ Qd D H) ∨ ((Itt K a).go i H ∧ ∃ Nx : Hp → Prop, (∀ H', Nx H' → ∃ m', m' < m ∧ W (i + 1) m' H') ∧ ∀ x H', (Itt K a).yld i H x H' → g x (wipe σ vs) H' fun σ2 H2 => wipe σ2 vs = wipe σ vs ∧ tt σ2 H2 fun b H3 =>
        if b = true then te σ2 H3 fun y H4 => ∃ acc, H4 D = some (.lst acc) ∧ acc.length < sizeLine ∧ Nx (upd H4 D (.lst (acc ++ [y]))) else Nx H3)) := by
  rcases hS with h | h
  · exact .inl ⟨⟨_, h⟩, fun D hD => lc_list (Pv D) (h0 D hD) (fun i H hi p => sqL_mv h (hl D i H hD hi p)) (hs D hD) (hd D hD)⟩
  · exact .inr ⟨⟨_, h⟩, fun D hD => lc_tup (Pv D) (h0 D hD) (fun i H hi p => SqT.same (hl D i H hD hi p) h) (hs D hD) (hd D hD)⟩
theorem lc_enumT {K : PySem.W.Frag} {a : Addr} {xs : List V} {g : TG} {tt : TT} {te : TE} {vs : List Nat} {σ : L2.St} {H1 : Hp} {D : Addr} {Qd : Hp → Prop} (Pv : Nat → Hp → Prop) (h0 : Pv 0 (upd H1 D (.lst []))) (hl : ∀ i H, i ≤ xs.length → Pv i H → SqT K H a xs)
    (hs : ∀ i x H T, xs[i]? = some x → Pv i H → H T = Option.none → g (.ref T) (wipe σ vs) (upd H T (.tup [.int (i : Nat), x])) fun σ2 H2 => wipe σ2 vs = wipe σ vs ∧ tt σ2 H2 fun b H3 =>
      if b = true then te σ2 H3 fun y H4 => ∃ acc, H4 D = some (.lst acc) ∧ acc.length < sizeLine ∧ Pv (i + 1) (upd H4 D (.lst (acc ++ [y]))) else Pv (i + 1) H3) (hd : ∀ H, Pv xs.length H → Qd H) :
    ∃ W : Nat → Nat → Hp → Prop, (∃ m, W 0 m (upd H1 D (.lst []))) ∧ ∀ i m H, W i m H →
      ((IteT K a).stop i H ∧ Qd H) ∨ ((IteT K a).go i H ∧ ∃ Nx : Hp → Prop, (∀ H', Nx H' → ∃ m', m' < m ∧ W (i + 1) m' H') ∧ ∀ x H', (IteT K a).yld i H x H' → g x (wipe σ vs) H' fun σ2 H2 => wipe σ2 vs = wipe σ vs ∧ tt σ2 H2 fun b H3 =>
        if b = true then te σ2 H3 fun y H4 => ∃ acc, H4 D = some (.lst acc) ∧ acc.length < sizeLine ∧ Nx (upd H4 D (.lst (acc ++ [y]))) else Nx H3) := by
  refine ⟨fun i m H => m = xs.length - i ∧ i ≤ xs.length ∧ Pv i H, ⟨xs.length, by simp, Nat.zero_le _, h0⟩, ?_⟩
  rintro i m H ⟨rfl, hi, p⟩
  have q := hl i H hi p
  by_cases hlt : i < xs.length
  · refine .inr ⟨⟨xs, xs[i], q, by simp [hlt]⟩, Pv (i + 1), fun H' p' => ⟨xs.length - (i + 1), by omega, rfl, hlt, p'⟩, fun x H' y => ?_⟩
    obtain ⟨T, z, rfl, hT, rfl, hz⟩ := y
    exact hs i z H T (hz xs q) p hT
  · have e : i = xs.length := by omega
    subst e
    exact .inl ⟨⟨xs, q, Nat.le_refl _⟩, hd H p⟩

def mV : Option Int → V
  | .none => .non
  | .some x => .int x
/-- a list or a tuple at a -/
def SeqA (H : Hp) (a : Addr) (xs : List V) : Prop := H a = some (.lst xs) ∨ H a = some (.tup xs)
theorem SeqA.same {H H' : Hp} {a : Addr} {xs : List V} (s : Same H H') (h : SeqA H a xs) : SeqA H' a xs := h.elim (fun h => .inl (s _ _ h)) fun h => .inr (s _ _ h)
theorem SeqA.two {K : PySem.W.Frag} {H : Hp} {a : Addr} {xs : List V} (h : SeqA H a xs) : SqL K H a xs ∨ SqT K H a xs := h.elim (fun h => .inl (SqL.of h)) fun h => .inr (SqT.of h)
theorem SeqA.x {K : PySem.W.Frag} {H : Hp} {a : Addr} {xs : List V} (h : SeqA H a xs) : ∃ k, SqX K k H a xs := h.elim (fun h => ⟨true, .inl ⟨rfl, SqL.of h⟩⟩) fun h => ⟨false, .inr ⟨rfl, SqT.of h⟩⟩
theorem SqX.same {K : PySem.W.Frag} {k : Bool} {H H' : Hp} {a : Addr} {xs : List V} (s : Same H H') (h : SqX K k H a xs) : SqX K k H' a xs := h.elim (fun h => .inl ⟨h.1, sqL_same s h.2⟩) fun h => .inr ⟨h.1, SqT.same s h.2⟩
theorem isi_two {K : PySem.W.Frag} {H : Hp} {a c : Addr} {xs : List V} {Q : VK} (h : SeqA H a xs) (hc : H c = some (.tup [.ty "list", .ty "tuple"])) (q : Q (.bl true) H) : rIsiT K [.ref a, .ref c] H Q := by
  rcases h with h | h
  · exact ⟨.ref a, c, _, .type "list", [.type "list", .type "tuple"], true, rfl, hc, .cons (.ty _) (.cons (.ty _) .nil), .base (.lst h), kitA1 (kit_ty (by decide +kernel)), q⟩
  · exact ⟨.ref a, c, _, .type "tuple", [.type "list", .type "tuple"], true, rfl, hc, .cons (.ty _) (.cons (.ty _) .nil), .base (.tup h), kitA2 (kit_ty (by decide +kernel)) (kit_ty (by decide +kernel)), q⟩
theorem tNil_to {σ : L2.St} {H : Hp} {k : List V → Hp → Prop} (h : k [] H) : tNil σ H k := h
/-- a loop over enumerate of a list or of a tuple -/
theorem for_en2 {K : PySem.W.Frag} {a : Addr} {xs : List V} {g : TG} {tb : TS} {D : Ends} {σ : L2.St} {H0 H : Hp} (hS : SqL K H0 a xs ∨ SqT K H0 a xs) (Pv : Nat → L2.St → Hp → Prop) (h0 : Pv 0 σ H) (hl : ∀ i σ G, Pv i σ G → Same H0 G)
    (hs : ∀ i x σ G T, xs[i]? = some x → Pv i σ G → G T = Option.none → g (.ref T) σ (upd G T (.tup [.int (i : Nat), x])) fun σ2 H2 => tb { nx := Pv (i + 1), rt := D.rt, bk := D.nx, ct := Pv (i + 1) } σ2 H2) (hd : ∀ σ G, Pv xs.length σ G → D.nx σ G) :
    (SqL K H a xs ∧ ∃ W : Nat → Nat → L2.St → Hp → Prop, (∃ m, W 0 m σ H) ∧ ∀ i m σ G, W i m σ G →
      ((Ite K a).stop i G ∧ D.nx σ G) ∨ ((Ite K a).go i G ∧ ∃ N : L2.St → Hp → Prop, (∀ σ' H', N σ' H' → ∃ m', m' < m ∧ W (i + 1) m' σ' H') ∧ ∀ x H', (Ite K a).yld i G x H' → g x σ H' fun σ2 H2 => tb { nx := N, rt := D.rt, bk := D.nx, ct := N } σ2 H2)) ∨
    (SqT K H a xs ∧ ∃ W : Nat → Nat → L2.St → Hp → Prop, (∃ m, W 0 m σ H) ∧ ∀ i m σ G, W i m σ G →
      ((IteT K a).stop i G ∧ D.nx σ G) ∨ ((IteT K a).go i G ∧ ∃ N : L2.St → Hp → Prop, (∀ σ' H', N σ' H' → ∃ m', m' < m ∧ W (i + 1) m' σ' H') ∧ ∀ x H', (IteT K a).yld i G x H' → g x σ H' fun σ2 H2 => tb { nx := N, rt := D.rt, bk := D.nx, ct := N } σ2 H2)) := by
  rcases hS with q0 | q0
  · refine .inl ⟨sqL_same (hl 0 σ H h0) q0, fun i m σ G => m = xs.length - i ∧ i ≤ xs.length ∧ Pv i σ G, ⟨xs.length, by simp, Nat.zero_le _, h0⟩, ?_⟩
    rintro i m σ G ⟨rfl, hi, p⟩
    have q := sqL_same (hl i σ G p) q0
    by_cases hlt : i < xs.length
    · refine .inr ⟨⟨xs, xs[i], q, by simp [hlt]⟩, Pv (i + 1), fun σ' H' p' => ⟨xs.length - (i + 1), by omega, rfl, hlt, p'⟩, fun x H' y => ?_⟩
      obtain ⟨T, z, rfl, hT, rfl, hz⟩ := y
      exact hs i z σ G T (hz xs q) p hT
    · have e : i = xs.length := by omega
      subst e
      exact .inl ⟨⟨xs, q, Nat.le_refl _⟩, hd σ G p⟩
  · refine .inr ⟨SqT.same (hl 0 σ H h0) q0, fun i m σ G => m = xs.length - i ∧ i ≤ xs.length ∧ Pv i σ G, ⟨xs.length, by simp, Nat.zero_le _, h0⟩, ?_⟩
    rintro i m σ G ⟨rfl, hi, p⟩
    have q := SqT.same (hl i σ G p) q0
    by_cases hlt : i < xs.length
    · refine .inr ⟨⟨xs, xs[i], q, by simp [hlt]⟩, Pv (i + 1), fun σ' H' p' => ⟨xs.length - (i + 1), by omega, rfl, hlt, p'⟩, fun x H' y => ?_⟩
      obtain ⟨T, z, rfl, hT, rfl, hz⟩ := y
      exact hs i z σ G T (hz xs q) p hT
    · have e : i = xs.length := by omega
      subst e
      exact .inl ⟨⟨xs, q, Nat.le_refl _⟩, hd σ G p⟩
/-- the entry e at t: a value and its marks -/
def EntryAt (H : Hp) (t : Addr) (e : Int × List (Option Int)) : Prop := ∃ a, H t = some (.tup [.int e.1, .ref a]) ∧ SeqA H a (e.2.map mV)
theorem EntryAt.same {H H' : Hp} {t : Addr} {e : Int × List (Option Int)} (s : Same H H') (h : EntryAt H t e) : EntryAt H' t e := by
  obtain ⟨a, h1, h2⟩ := h
  exact ⟨a, s _ _ h1, h2.same s⟩
def EntsAt (H : Hp) (xs : List V) (es : List (Int × List (Option Int))) : Prop := xs.length = es.length ∧ ∀ (i : Nat) (y : V), xs[i]? = some y → ∃ (t : Addr) (e : Int × List (Option Int)), y = .ref t ∧ es[i]? = some e ∧ EntryAt H t e
theorem EntsAt.same {H H' : Hp} {xs : List V} {es : List (Int × List (Option Int))} (s : Same H H') (h : EntsAt H xs es) : EntsAt H' xs es := ⟨h.1, fun i y e => by
  obtain ⟨t, d, e1, e2, e3⟩ := h.2 i y e
  exact ⟨t, d, e1, e2, e3.same s⟩⟩
abbrev BIG : Int := 1000000000000000000000000000000
structure OkEnt (ps : List Int) (e : Int × List (Option Int)) : Prop where
  lo : -BIG < e.1
  hi : e.1 < BIG
  l : e.2.length = ps.length
  m : ∀ (i : Nat) (x p : Int), e.2[i]? = some (some x) → ps[i]? = some p → 0 ≤ x ∧ x < p
def spIsPair : Sp := fun vs H Q _ => ∃ (t : Addr) (e : Int × List (Option Int)), vs = [.ref t] ∧ EntryAt H t e ∧ -BIG < e.1 ∧ e.1 < BIG ∧ ∀ H', Same H H' → Q (.bl true) H'
theorem ok_is_pair (T : Txt K mg) : FnOk P w K mg base CX0 3 T.a_is_pair T.fd_is_pair ["value"] spIsPair := by
  refine T.F_is_pair.ok sc_is_pair (fun vs H Q E h => ?_) (fun cdv A outer s H vs Q E hr h => ?_)
  · obtain ⟨t, e, rfl, _⟩ := h; rfl
  · obtain ⟨t, e, rfl, ⟨a, ht, hm⟩, lo, hi, k⟩ := h
    refine ⟨_, pss_cons (ps_if (PW.pt (pw_or (pt_not (pt_val (pe_callB call_isi (by rfl) T.n_isinstance (by decide +kernel) (pa_cons (pv 0) (pa_cons (pe_bltn (v := .ty "tuple") (u := .type "tuple") (by rfl) T.n_tuple (by decide +kernel) rfl) (pa_nil)))))) (pw_or (pt_cmpR op_ne (pe_callB call_len_seq (by rfl) T.n_len (by decide +kernel) (pa_cons (pv 0) (pa_nil))) (pe_int) (nomark _)) (pw_or1 (pt_not (pt_val (pe_callB call_isiT (by rfl) T.n_isinstance (by decide +kernel) (pa_cons (pe_ix ix_tup (pv 0) (pe_int) (fun _ _ => rfl)) (pa_cons (pe_tup (pa_cons (pe_bltn (v := .ty "list") (u := .type "list") (by rfl) T.n_list (by decide +kernel) rfl) (pa_cons (pe_bltn (v := .ty "tuple") (u := .type "tuple") (by rfl) T.n_tuple (by decide +kernel) rfl) (pa_nil)))) (pa_nil)))))))))) (pss_one (ps_ret (pe_bl))) (pss_nil))
      (pss_one (ps_ret (pe_call (ok_is_between T) (hr.mono (by decide)) rfl T.m_is_between T.F_is_between.kp (b_is_between T) .nil pass0 (pa_cons (pe_ix ix_tup (pv 0) (pe_int) (fun _ _ => rfl)) (pa_cons (pe_op op_sub (pe_int) (pe_glob (v := .int 1000000000000000000000000000000) rfl T.m_BV T.r_BV)) (pa_cons (pe_op op_sub (pe_glob (v := .int 1000000000000000000000000000000) rfl T.m_BV T.r_BV) (pe_int)) (pa_nil))))))), ?_⟩
    refine ⟨_, rfl, .ref t, .ty "tuple", .type "tuple", .type "tuple", true, rfl, (by constructor), .base (.tup ht), (kit_ty (by decide +kernel)), true, rfl, iteF ?_⟩
    refine ⟨_, rfl, t, _, rfl, .inr (SqT.of ht), rfl, false, rfl, iteF ?_⟩
    refine ⟨_, rfl, t, _, _, _, rfl, rfl, SqT.of ht, rfl, (by show 2 ≤ sizeLine; decide), fun c kc => ?_⟩
    have s1 := same_new (o := .tup [.ty "list", .ty "tuple"]) kc
    refine tNil_to (isi_two (hm.same s1) upd_same ?_)
    refine ⟨true, rfl, iteF ?_⟩
    refine ⟨_, rfl, t, _, _, _, rfl, rfl, SqT.of (s1 _ _ ht), rfl, _, _, rfl, rfl, _, _, rfl, rfl, e.1, 1 - BIG, BIG - 1, rfl, ?_⟩
    rw [decide_eq_true ⟨by omega, by omega⟩]
    exact k _ s1
def spIsEntry : Sp := fun vs H Q _ => ∃ (t b : Addr) (e : Int × List (Option Int)) (ps : List Int), vs = [.ref t, .ref b] ∧ EntryAt H t e ∧ SeqA H b (ps.map V.int) ∧ OkEnt ps e ∧ ∀ H', Same H H' → Q (.bl true) H'
theorem ok_is_entry (T : Txt K mg) : FnOk P w K mg base CX0 4 T.a_is_entry T.fd_is_entry ["value", "periods"] spIsEntry := by
  refine T.F_is_entry.ok sc_is_entry (fun vs H Q E h => ?_) (fun cdv A outer s H vs Q E hr h => ?_)
  · obtain ⟨t, b, e, ps, rfl, _⟩ := h; rfl
  · obtain ⟨t, b, e, ps, rfl, hE, hb, ok, k⟩ := h
    refine ⟨_, pss_cons (ps_if (PW.pt (pw_or (pt_not (pt_val (pe_call (ok_is_pair T) (hr.mono (by decide)) rfl T.m_is_pair T.F_is_pair.kp (b_is_pair T) .nil pass0 (pa_cons (pv 0) (pa_nil))))) (pw_or1 (pt_cmpR op_ne (pe_callB call_len_seq (by rfl) T.n_len (by decide +kernel) (pa_cons (pe_ix ix_tup (pv 0) (pe_int) (fun _ _ => rfl)) (pa_nil))) (pe_callB call_len_seq (by rfl) T.n_len (by decide +kernel) (pa_cons (pv 1) (pa_nil))) (nomark _))))) (pss_one (ps_ret (pe_bl))) (pss_nil))
      (pss_cons (ps_for PassesOwn.never rfl (pi_zipM (by rfl) T.n_zip (pa_cons (pe_ix ix_tup (pv 0) pe_int (fun _ _ => rfl)) (pa_cons (pv 1) pa_nil))) (pg_tup rfl (pgs_cons (pg_name (i := 2) sc_is_entry.nd rfl (Or.inl rfl)) (pgs_cons (pg_name (i := 3) sc_is_entry.nd rfl (Or.inl rfl)) (pgs_nil)))) (pss_one (ps_if (PW.pt (pw_and (pt_cmpR op_notN (pv 2) (pe_non) (nomark _)) (pw_and1 (pt_not (pt_val (pe_call (ok_is_between T) (hr.mono (by decide)) rfl T.m_is_between T.F_is_between.kp (b_is_between T) .nil pass0 (pa_cons (pv 2) (pa_cons (pe_int) (pa_cons (pe_op op_sub (pv 3) (pe_int)) (pa_nil)))))))))) (pss_one (ps_ret (pe_bl))) (pss_nil))))
      (pss_one (ps_ret (pe_bl)))), ?_⟩
    refine ⟨_, rfl, t, e, rfl, hE, ok.lo, ok.hi, fun H1 s1 => ⟨true, rfl, iteF ?_⟩⟩
    have hE := hE.same s1
    have hb := hb.same s1
    obtain ⟨a, ht, hm⟩ := id hE
    obtain ⟨k1, x1⟩ := SeqA.x (K := K) hm
    obtain ⟨k2, x2⟩ := SeqA.x (K := K) hb
    have lm : (e.2.map mV).length = (ps.map V.int).length := by rw [List.length_map, List.length_map, ok.l]
    refine ⟨_, rfl, t, _, _, _, rfl, rfl, SqT.of ht, rfl, a, _, rfl, hm.two, _, rfl, b, _, rfl, hb.two, rfl, false, (by rw [lm, decide_eq_true rfl]; rfl), iteF ?_⟩
    refine ⟨_, rfl, t, _, _, _, rfl, rfl, SqT.of ht, rfl, _, rfl, k1, k2, a, b, _, _, rfl, x1, x2, for_zipM lm (fun j σ H' => Same H1 H' ∧ ∃ v2 v3 : Option V, σ = [some (.ref t), some (.ref b), v2, v3]) ⟨fun _ _ z => z, _, _, rfl⟩ (fun j σ H' z => ⟨x1.same z.1, x2.same z.1⟩) ?_ ?_⟩
    · rintro j x y c σ H2 hx hy ⟨s2, v2, v3, rfl⟩ hc
      have s3 := s2.trans (same_new (o := .tup [x, y]) hc)
      rw [List.getElem?_map] at hx hy
      obtain ⟨m, hm', rfl⟩ := Option.map_eq_some_iff.mp hx
      obtain ⟨p, hp, rfl⟩ := Option.map_eq_some_iff.mp hy
      refine ⟨c, _, rfl, SqT.of upd_same, rfl, _, _, rfl, _, _, rfl, rfl, ?_⟩
      cases m with
      | none => exact ⟨_, rfl, rfl, false, (by rw [show mV Option.none = V.non from rfl, decide_eq_true rfl]; rfl), iteF (iteF ⟨s3, _, _, rfl⟩)⟩
      | some z =>
        have r := ok.m j z p hm' hp
        refine ⟨_, rfl, rfl, true, (by rw [show mV (some z) = V.int z from rfl, decide_eq_false (fun h => by cases h)]; rfl), iteT ?_⟩
        exact ⟨_, rfl, _, rfl, _, _, rfl, rfl, z, 0, p - 1, rfl, true, (congrArg V.bl (decide_eq_true (by omega))), iteF ⟨s3, _, _, rfl⟩⟩
    · rintro σ H2 ⟨s2, v2, v3, rfl⟩
      exact k H2 (s1.trans s2)
def spNeedEnts : Sp := fun vs H Q _ => ∃ (a b : Addr) (xs : List V) (es : List (Int × List (Option Int))) (ps : List Int), vs = [.ref a, .ref b] ∧ SeqA H a xs ∧ EntsAt H xs es ∧ es.length ≤ 60 ∧ SeqA H b (ps.map V.int) ∧ (∀ e ∈ es, OkEnt ps e) ∧ ∀ H', Same H H' → Q .non H'
theorem ok_need_entries (T : Txt K mg) : FnOk P w K mg base CX0 5 T.a_need_entries T.fd_need_entries ["entries", "periods"] spNeedEnts := by
  refine T.F_need_entries.ok sc_need_entries (fun vs H Q E h => ?_) (fun cdv A outer s H vs Q E hr h => ?_)
  · obtain ⟨a, b, xs, es, ps, rfl, _⟩ := h; rfl
  · obtain ⟨a, b, xs, es, ps, rfl, ha, hE, hl, hb, ok, k⟩ := h
    refine ⟨_, pss_cons (ps_expr (pe_call (ok_need_items T) (hr.mono (by decide)) rfl T.m_need_items T.F_need_items.kp (b_need_items T) .nil pass0 (pa_cons (pv 0) (pa_nil))))
      (pss_one (ps_for PassesOwn.never rfl (pi_enum2 (by rfl) T.n_enumerate (pa_cons (pv 0) pa_nil)) (pg_tup rfl (pgs_cons (pg_name (i := 2) sc_need_entries.nd rfl (Or.inl rfl)) (pgs_cons (pg_name (i := 3) sc_need_entries.nd rfl (Or.inl rfl)) (pgs_nil)))) (pss_one (ps_if (pt_not (pt_val (pe_call (ok_is_entry T) (hr.mono (by decide)) rfl T.m_is_entry T.F_is_entry.kp (b_is_entry T) .nil pass0 (pa_cons (pv 3) (pa_cons (pv 1) (pa_nil)))))) (pss_one (ps_never)) (pss_nil))))), ?_⟩
    refine ⟨_, rfl, a, xs, rfl, ha, by rw [hE.1]; exact hl, fun H1 s1 => ?_⟩
    have ha := ha.same s1
    have hE := hE.same s1
    have hb := hb.same s1
    refine ⟨_, rfl, a, xs, rfl, ?_⟩
    refine for_en2 ha.two (fun i σ G => Same H1 G ∧ ∃ v2 v3 : Option V, σ = [some (.ref a), some (.ref b), v2, v3]) ⟨fun _ _ z => z, _, _, rfl⟩ (fun i σ G z => z.1) ?_ ?_
    · rintro i x σ G c hx ⟨s2, v2, v3, rfl⟩ hc
      obtain ⟨t, e, rfl, he, hEn⟩ := hE.2 i x hx
      have s3 := s2.trans (same_new (o := .tup [.int (i : Nat), .ref t]) hc)
      refine ⟨c, _, rfl, SqT.of upd_same, rfl, _, _, rfl, _, _, rfl, rfl, ?_⟩
      exact ⟨_, rfl, _, rfl, t, b, e, ps, rfl, hEn.same s3, hb.same s3, ok e (List.mem_of_getElem? he), fun G2 s4 => ⟨true, rfl, iteF ⟨s3.trans s4, _, _, rfl⟩⟩⟩
    · rintro σ G ⟨s2, v2, v3, rfl⟩
      exact k G (s1.trans s2)

/-- the pairs of an index and an offset of the first n entries -/
def offP (pl : Nat) (p : Int) (i : Nat) (e : Int × List (Option Int)) : List (Int × Int) := match (e.2.getD pl Option.none) with
  | .none => []
  | .some m => [((i : Int), (m - e.1) % p)]
def offsN (es : List (Int × List (Option Int))) (pl : Nat) (p : Int) (n : Nat) : List (Int × Int) := (List.range n).flatMap fun i => offP pl p i (es.getD i (0, []))
theorem offsN_succ {es : List (Int × List (Option Int))} {pl n : Nat} {p : Int} {e : Int × List (Option Int)} (h : es[n]? = some e) : offsN es pl p (n + 1) = offsN es pl p n ++ offP pl p n e := by
  unfold offsN
  rw [List.range_succ, List.flatMap_append, List.flatMap_singleton, List.getD_eq_getElem?_getD, h]
  rfl
theorem offP_len {pl i : Nat} {p : Int} {e : Int × List (Option Int)} : (offP pl p i e).length ≤ 1 := by
  unfold offP
  split
  · exact Nat.zero_le _
  · exact Nat.le_refl _
theorem offsN_len {es : List (Int × List (Option Int))} {pl : Nat} {p : Int} : ∀ n : Nat, n ≤ es.length → (offsN es pl p n).length ≤ n
  | 0, _ => Nat.zero_le _
  | n + 1, h => by
    rw [offsN_succ (List.getElem?_eq_getElem (show n < es.length by omega)), List.length_append]
    have := offsN_len (es := es) (pl := pl) (p := p) n (by omega)
    have := offP_len (pl := pl) (i := n) (p := p) (e := es[n]'(by omega))
    omega
def spOffs (K : PySem.W.Frag) : Sp := fun vs H Q _ => ∃ (a : Addr) (pl : Nat) (p : Int) (xs : List V) (es : List (Int × List (Option Int))), vs = [.ref a, .int (pl : Nat), .int p] ∧ SeqA H a xs ∧ EntsAt H xs es ∧ es.length ≤ 60 ∧ 0 < p ∧ (∀ e ∈ es, pl < e.2.length) ∧
  ∀ (l : Addr) (ts : List Addr) (H' : Hp), Same H H' → H' l = some (.lst (ts.map V.ref)) → PrsAt H' ts (offsN es pl p es.length) → Q (.ref l) H'
theorem ok_offsets_at (T : Txt K mg) : FnOk P w K mg base CX0 1 T.a_offsets_at T.fd_offsets_at ["entries", "place", "period"] (spOffs K) := by
  refine T.F_offsets_at.ok sc_offsets_at (fun vs H Q E h => ?_) (fun cdv A outer s H vs Q E hr h => ?_)
  · obtain ⟨a, pl, p, xs, es, rfl, _⟩ := h; rfl
  · obtain ⟨a, pl, p, xs, es, rfl, ha, hE, hl, p0, hpl, k⟩ := h
    refine ⟨_, pss_cons (ps_set (i := 3) sc_offsets_at.nd rfl (Or.inl rfl) (pe_lst (pa_nil)))
      (pss_cons (ps_for PassesOwn.never rfl (pi_enum2 (by rfl) T.n_enumerate (pa_cons (pv 0) pa_nil)) (pg_tup rfl (pgs_cons (pg_name (i := 4) sc_offsets_at.nd rfl (Or.inl rfl)) (pgs_cons (pg_tup rfl (pgs_cons (pg_name (i := 5) sc_offsets_at.nd rfl (Or.inl rfl)) (pgs_cons (pg_name (i := 6) sc_offsets_at.nd rfl (Or.inl rfl)) (pgs_nil)))) (pgs_nil)))) (pss_one (ps_if (pt_cmpR op_notN (pe_ix ix_two (pv 6) (pv 1) (fun _ _ => rfl)) (pe_non) (nomark _)) (pss_one (ps_expr (pe_bm PySem.F.plainAttrs_list PySem.F.slot_list_append PySem.F.type_list_append mt_append (pv 3) (pa_cons (pe_tup (pa_cons (pv 4) (pa_cons (pe_op op_modN (pe_op op_sub (pe_ix ix_two (pv 6) (pv 1) (fun _ _ => rfl)) (pv 5)) (pv 2)) (pa_nil)))) (pa_nil))))) (pss_nil))))
      (pss_one (ps_ret (pv 3)))), ?_⟩
    refine ⟨Nat.zero_le _, fun D hD => ?_⟩
    have s1 := same_new (o := .lst []) hD
    have hD1 : (upd H D (.lst [])) D = some (.lst []) := upd_same
    generalize upd H D (.lst []) = H1 at s1 hD1 ⊢
    refine ⟨_, rfl, a, xs, rfl, ?_⟩
    refine for_en2 (H0 := H) ha.two (fun i σ G => Same H G ∧ ∃ ts : List Addr, G D = some (.lst (ts.map V.ref)) ∧ PrsAt G ts (offsN es pl p i) ∧ ∃ v4 v5 v6 : Option V, σ = [some (.ref a), some (.int (pl : Nat)), some (.int p), some (.ref D), v4, v5, v6]) ⟨s1, [], hD1, ⟨rfl, fun i t q h => by simp at h⟩, _, _, _, rfl⟩ (fun i σ G z => z.1) ?_ ?_
    · rintro i x σ G c hx ⟨s2, ts, hDG, hT, v4, v5, v6, rfl⟩ hc
      obtain ⟨t, e, rfl, he, hEn⟩ := hE.2 i x hx
      have hi : i < es.length := (List.getElem?_eq_some_iff.mp he).1
      have sc := same_new (o := .tup [.int (i : Nat), .ref t]) hc
      have s3 := s2.trans sc
      have hDG := sc _ _ hDG
      have hT := hT.same sc
      obtain ⟨b, ht, hm⟩ := hEn.same s3
      have lp := hpl e (List.mem_of_getElem? he)
      obtain ⟨m, hmm⟩ : ∃ m, e.2[pl]? = some m := ⟨_, List.getElem?_eq_getElem lp⟩
      have hat : atI (e.2.map mV) ((pl : Nat) : Int) = some (mV m) := atI_nat (by rw [List.getElem?_map, hmm]; rfl)
      have ed : e.2.getD pl Option.none = m := by rw [List.getD_eq_getElem?_getD, hmm]; rfl
      refine ⟨c, _, rfl, SqT.of upd_same, rfl, _, _, rfl, _, _, rfl, t, _, rfl, SqT.of ht, rfl, _, _, rfl, _, _, rfl, rfl, rfl, ?_⟩
      generalize upd G c (.tup [.int (i : Nat), .ref t]) = G2 at s3 hDG hT ht hm ⊢
      refine ⟨_, rfl, _, rfl, ix_mv hm.two hat ⟨rfl, ?_⟩⟩
      rw [offsN_succ he]
      unfold offP
      rw [ed]
      cases m with
      | none =>
        refine ⟨false, (by rw [show mV Option.none = V.non from rfl, decide_eq_true rfl]; rfl), iteF ⟨s3, ts, hDG, ?_, _, _, _, rfl⟩⟩
        rw [List.append_nil]
        exact hT
      | some z =>
        refine ⟨true, (by rw [show mV (some z) = V.int z from rfl, decide_eq_false (fun h => by cases h)]; rfl), iteT ?_⟩
        refine ⟨_, rfl, .inl ⟨rfl, _, SqL.of hDG⟩, _, rfl, _, rfl, _, rfl, ix_mv hm.two hat ⟨_, rfl, _, _, rfl, rfl, _, rfl, _, _, rfl, rfl, (by omega), (by show 2 ≤ sizeLine; decide), fun c2 hc2 => ?_⟩⟩
        have ef : (z - e.1).fmod p = (z - e.1) % p := Int.fmod_eq_emod_of_nonneg _ (by omega)
        have s4 := same_new (o := .tup [.int (i : Nat), .int ((z - e.1).fmod p)]) hc2
        have nD : c2 ≠ D := fun q => by rw [q, hDG] at hc2; cases hc2
        refine ⟨D, _, _, rfl, rfl, s4 _ _ hDG, ?_, ?_⟩
        · rw [List.length_map, hT.1]
          have := offsN_len (es := es) (pl := pl) (p := p) i (by omega)
          exact Nat.lt_of_le_of_lt (show _ ≤ 60 by omega) (by decide)
        · refine ⟨same_up (s3.trans s4) hD, ts ++ [c2], (by rw [upd_same, List.map_append]; rfl), ?_, _, _, _, rfl⟩
          refine hT.snoc (fun q zs hq => ?_) ?_
          · have nq : q ≠ D := fun w => by rw [w, hDG] at hq; cases hq
            rw [upd_ne nq]
            exact s4 _ _ hq
          · rw [upd_ne nD]
            show _ = some (HO.tup [.int (i : Nat), .int ((z - e.1) % p)])
            rw [← ef]
            exact upd_same
    · rintro σ G ⟨s2, ts, hDG, hT, v4, v5, v6, rfl⟩
      rw [hE.1] at hT
      exact ⟨_, rfl, k D ts G s2 hDG hT⟩
def spArePer : Sp := fun vs H Q _ => ∃ (a : Addr) (ps : List Int), vs = [.ref a] ∧ SeqA H a (ps.map V.int) ∧ 1 ≤ ps.length ∧ ps.length ≤ 8 ∧ (∀ p ∈ ps, 2 ≤ p ∧ p ≤ 1000000000000) ∧ ∀ H', Same H H' → Q (.bl true) H'
theorem ok_are_periods (T : Txt K mg) : FnOk P w K mg base CX0 4 T.a_are_periods T.fd_are_periods ["value"] spArePer := by
  refine T.F_are_periods.ok sc_are_periods (fun vs H Q E h => ?_) (fun cdv A outer s H vs Q E hr h => ?_)
  · obtain ⟨a, ps, rfl, _⟩ := h; rfl
  · obtain ⟨a, ps, rfl, ha, l1, l8, hp, k⟩ := h
    refine ⟨_, pss_cons (ps_if (PW.pt (pw_or (pt_not (pt_val (pe_callB call_isiT (by rfl) T.n_isinstance (by decide +kernel) (pa_cons (pv 0) (pa_cons (pe_tup (pa_cons (pe_bltn (v := .ty "list") (u := .type "list") (by rfl) T.n_list (by decide +kernel) rfl) (pa_cons (pe_bltn (v := .ty "tuple") (u := .type "tuple") (by rfl) T.n_tuple (by decide +kernel) rfl) (pa_nil)))) (pa_nil)))))) (pw_or1 (pt_not (pt_chain op_le op_le pe_int (pe_callB call_len_seq (by rfl) T.n_len (by decide +kernel) (pa_cons (pv 0) pa_nil)) (pe_glob (v := .int 8) rfl T.m_MW T.r_MW)))))) (pss_one (ps_ret (pe_bl))) (pss_nil))
      (pss_one (ps_ret (pe_callB (cr_all (by rfl)) (by rfl) T.n_all (by decide +kernel) (pa_cons (pe_lc (own := [("period", 1)]) (g := gName 1) (tt := tYes) rfl sc_are_periods.nd (pi_seq (pv 0)) (blkOk_by (own := [("period", 1)]) (N := ["value", "period"]) (sc := defScope s_are_periods) (by decide +kernel)) (fun _ _ _ _ _ => pg_name (i := 1) sc_are_periods.nd rfl (Or.inl rfl)) (fun _ _ _ _ _ => pts_nil) (fun _ _ _ _ _ => pe_call (ok_is_period T) (hr.mono (by decide)) rfl T.m_is_period T.F_is_period.kp (b_is_period T) .nil pass0 (pa_cons (pv 1) (pa_nil)))) (pa_nil))))), ?_⟩
    refine ⟨_, rfl, (by show 2 ≤ sizeLine; decide), fun c kc => ?_⟩
    have s1 := same_new (o := .tup [.ty "list", .ty "tuple"]) kc
    refine tNil_to (isi_two (ha.same s1) upd_same ?_)
    have ha := ha.same s1
    generalize upd H c (.tup [.ty "list", .ty "tuple"]) = H1 at s1 ha ⊢
    refine ⟨true, rfl, iteF ?_⟩
    refine ⟨_, rfl, a, _, rfl, ha.two, ?_⟩
    rw [List.length_map]
    refine ⟨1, _, rfl, rfl, true, (congrArg V.bl (decide_eq_true (by omega))), iteT ⟨_, _, rfl, rfl, true, (congrArg V.bl (decide_eq_true (by omega))), iteF ?_⟩⟩
    refine ⟨_, rfl, a, rfl, lc_seq ha.two (fun D i G => Same H1 G ∧ G D = some (.lst ((List.replicate i true).map V.bl))) (fun D hD => ⟨same_new hD, upd_same⟩) (fun D i G _ _ z => z.1) ?_ ?_⟩
    · rintro D hD i x G hx ⟨s2, hDG⟩
      rw [List.getElem?_map] at hx
      obtain ⟨p, hp1, rfl⟩ := Option.map_eq_some_iff.mp hx
      have li := (List.getElem?_eq_some_iff.mp hp1).1
      obtain ⟨p2, p3⟩ := hp p (List.mem_of_getElem? hp1)
      refine ⟨rfl, _, rfl, p, rfl, p2, p3, _, hDG, ?_, same_up s2 hD, ?_⟩
      · rw [List.length_map, List.length_replicate]
        exact Nat.lt_of_le_of_lt (show i ≤ 8 by omega) (by decide)
      · rw [upd_same, List.replicate_succ', List.map_append]
        rfl
    · rintro D hD G ⟨s2, hDG⟩
      refine ⟨D, _, rfl, SqL.of hDG, ?_⟩
      rw [show (List.replicate (ps.map V.int).length true).all id = true by rw [List.all_replicate]; split <;> rfl]
      exact k G (s1.trans s2)
theorem lc_enumL {K : PySem.W.Frag} {a : Addr} {xs : List V} {g : TG} {tt : TT} {te : TE} {vs : List Nat} {σ : L2.St} {H1 : Hp} {D : Addr} {Qd : Hp → Prop} (Pv : Nat → Hp → Prop) (h0 : Pv 0 (upd H1 D (.lst []))) (hl : ∀ i H, i ≤ xs.length → Pv i H → SqL K H a xs)
    (hs : ∀ i x H T, xs[i]? = some x → Pv i H → H T = Option.none → g (.ref T) (wipe σ vs) (upd H T (.tup [.int (i : Nat), x])) fun σ2 H2 => wipe σ2 vs = wipe σ vs ∧ tt σ2 H2 fun b H3 =>
      if b = true then te σ2 H3 fun y H4 => ∃ acc, H4 D = some (.lst acc) ∧ acc.length < sizeLine ∧ Pv (i + 1) (upd H4 D (.lst (acc ++ [y]))) else Pv (i + 1) H3) (hd : ∀ H, Pv xs.length H → Qd H) :
    ∃ W : Nat → Nat → Hp → Prop, (∃ m, W 0 m (upd H1 D (.lst []))) ∧ ∀ i m H, W i m H →
      ((Ite K a).stop i H ∧ Qd H) ∨ ((Ite K a).go i H ∧ ∃ Nx : Hp → Prop, (∀ H', Nx H' → ∃ m', m' < m ∧ W (i + 1) m' H') ∧ ∀ x H', (Ite K a).yld i H x H' → g x (wipe σ vs) H' fun σ2 H2 => wipe σ2 vs = wipe σ vs ∧ tt σ2 H2 fun b H3 =>
        if b = true then te σ2 H3 fun y H4 => ∃ acc, H4 D = some (.lst acc) ∧ acc.length < sizeLine ∧ Nx (upd H4 D (.lst (acc ++ [y]))) else Nx H3) := by
  refine ⟨fun i m H => m = xs.length - i ∧ i ≤ xs.length ∧ Pv i H, ⟨xs.length, by simp, Nat.zero_le _, h0⟩, ?_⟩
  rintro i m H ⟨rfl, hi, p⟩
  have q := hl i H hi p
  by_cases hlt : i < xs.length
  · refine .inr ⟨⟨xs, xs[i], q, by simp [hlt]⟩, Pv (i + 1), fun H' p' => ⟨xs.length - (i + 1), by omega, rfl, hlt, p'⟩, fun x H' y => ?_⟩
    obtain ⟨T, z, rfl, hT, rfl, hz⟩ := y
    exact hs i z H T (hz xs q) p hT
  · have e : i = xs.length := by omega
    subst e
    exact .inl ⟨⟨xs, q, Nat.le_refl _⟩, hd H p⟩
theorem lc_en2 {K : PySem.W.Frag} {a : Addr} {xs : List V} {g : TG} {tt : TT} {te : TE} {vs : List Nat} {σ : L2.St} {H1 : Hp} {Qd : Addr → Hp → Prop} (hS : SqL K H1 a xs ∨ SqT K H1 a xs) (Pv : Addr → Nat → Hp → Prop) (h0 : ∀ D, H1 D = Option.none → Pv D 0 (upd H1 D (.lst []))) (hl : ∀ D i H, H1 D = Option.none → i ≤ xs.length → Pv D i H → Same H1 H)
    (hs : ∀ D, H1 D = Option.none → ∀ i x H T, xs[i]? = some x → Pv D i H → H T = Option.none → g (.ref T) (wipe σ vs) (upd H T (.tup [.int (i : Nat), x])) fun σ2 H2 => wipe σ2 vs = wipe σ vs ∧ tt σ2 H2 fun b H3 =>
      if b = true then te σ2 H3 fun y H4 => ∃ acc, H4 D = some (.lst acc) ∧ acc.length < sizeLine ∧ Pv D (i + 1) (upd H4 D (.lst (acc ++ [y]))) else Pv D (i + 1) H3) (hd : ∀ D, H1 D = Option.none → ∀ H, Pv D xs.length H → Qd D H) :
    (SqL K H1 a xs ∧ ∀ D, H1 D = Option.none → ∃ W : Nat → Nat → Hp → Prop, (∃ m, W 0 m (upd H1 D (.lst []))) ∧ ∀ i m H, W i m H →
      ((Ite K a).stop i H ∧ Qd D H) ∨ ((Ite K a).go i H ∧ ∃ Nx : Hp → Prop, (∀ H', Nx H' → ∃ m', m' < m ∧ W (i + 1) m' H') ∧ ∀ x H', (Ite K a).yld i H x H' → g x (wipe σ vs) H' fun σ2 H2 => wipe σ2 vs = wipe σ vs ∧ tt σ2 H2 fun b H3 =>
        if b = true then te σ2 H3 fun y H4 => ∃ acc, H4 D = some (.lst acc) ∧ acc.length < sizeLine ∧ Nx (upd H4 D (.lst (acc ++ [y]))) else Nx H3)) ∨
    (SqT K H1 a xs ∧ ∀ D, H1 D = Option.none → ∃ W : Nat → Nat → Hp → Prop, (∃ m, W 0 m (upd H1 D (.lst []))) ∧ ∀ i m H, W i m H →
      ((IteT K a).stop i H ∧ Qd D H) ∨ ((IteT K a).go i H ∧ ∃ Nx : Hp → Prop, (∀ H', Nx H' → ∃ m', m' < m ∧ W (i + 1) m' H') ∧ ∀ x H', (IteT K a).yld i H x H' → g x (wipe σ vs) H' fun σ2 H2 => wipe σ2 vs = wipe σ vs ∧ tt σ2 H2 fun b H3 =>
        if b = true then te σ2 H3 fun y H4 => ∃ acc, H4 D = some (.lst acc) ∧ acc.length < sizeLine ∧ Nx (upd H4 D (.lst (acc ++ [y]))) else Nx H3)) := by
  rcases hS with h | h
  · exact .inl ⟨h, fun D hD => lc_enumL (Pv D) (h0 D hD) (fun i H hi p => sqL_mv h (hl D i H hD hi p)) (hs D hD) (hd D hD)⟩
  · exact .inr ⟨h, fun D hD => lc_enumT (Pv D) (h0 D hD) (fun i H hi p => SqT.same (hl D i H hD hi p) h) (hs D hD) (hd D hD)⟩
/-- the stretch at x -/
def StX (C : Addr) (H : Hp) (x : Addr) (b w : Int) (is : List Int) : Prop := ∃ lt, StAt C H x (.int b) (.int w) (.ref lt) ∧ H lt = some (.tup (is.map V.int))
theorem StX.same {C : Addr} {H H' : Hp} {x : Addr} {b w : Int} {is : List Int} (s : Same H H') (h : StX C H x b w is) : StX C H' x b w is := by
  obtain ⟨lt, ⟨dx, h1⟩, h2⟩ := h
  exact ⟨lt, ⟨dx, s _ _ h1⟩, s _ _ h2⟩
/-- what plays tells of the wheel at i -/
def PlayOf (es : List (Int × List (Option Int))) (k : Int) (i : Nat) (p b w : Int) (is : List Int) : Prop := NM.Narrow p ((offsN es i p es.length).map (·.2)) ((((offsN es i p es.length).length : Nat) : Int) - k) w b ∧ is = leftQ p b w (offsN es i p es.length)
def StsV (C : Addr) (H : Hp) (ws : List V) (es : List (Int × List (Option Int))) (k : Int) (ps : List Int) (n : Nat) : Prop := ws.length = n ∧ ∀ (i : Nat) (y : V), ws[i]? = some y → ∃ (x : Addr) (p b w : Int) (is : List Int), y = .ref x ∧ ps[i]? = some p ∧ StX C H x b w is ∧ PlayOf es k i p b w is
theorem StsV.same {C : Addr} {H H' : Hp} {ws : List V} {es : List (Int × List (Option Int))} {k : Int} {ps : List Int} {n : Nat} (s : Same H H') (h : StsV C H ws es k ps n) : StsV C H' ws es k ps n := ⟨h.1, fun i y e => by
  obtain ⟨x, p, b, w, is, e1, e2, e3, e4⟩ := h.2 i y e
  exact ⟨x, p, b, w, is, e1, e2, e3.same s, e4⟩⟩
def spPlays (K : PySem.W.Frag) (C : Addr) : Sp := fun vs H Q _ => ∃ (a b : Addr) (k : Int) (ps : List Int) (xs : List V) (es : List (Int × List (Option Int))), vs = [.ref b, .ref a, .int k] ∧ SeqA H b (ps.map V.int) ∧ 1 ≤ ps.length ∧ ps.length ≤ 8 ∧ (∀ p ∈ ps, 2 ≤ p ∧ p ≤ 1000000000000) ∧ SeqA H a xs ∧ EntsAt H xs es ∧ es.length ≤ 60 ∧ (∀ e ∈ es, OkEnt ps e) ∧ 0 ≤ k ∧
  ∀ (t : Addr) (H' : Hp) (ws : List V), Same H H' → H' t = some (.tup ws) → StsV C H' ws es k ps ps.length → Q (.ref t) H'
theorem ok_plays (T : Txt K mg) : FnOk P w K mg base CX0 6 T.a_plays T.fd_plays ["periods", "entries", "skip"] (spPlays K T.a_Stretch) := by
  refine T.F_plays.ok sc_plays (fun vs H Q E h => ?_) (fun cdv A outer s H vs Q E hr h => ?_)
  · obtain ⟨a, b, k, ps, xs, es, rfl, _⟩ := h; rfl
  · obtain ⟨a, b, kk, ps, xs, es, rfl, hb, l1, l8, hp, ha, hE, le, ok, k0, k⟩ := h
    refine ⟨_, pss_cons (ps_if (pt_not (pt_val (pe_call (ok_are_periods T) (hr.mono (by decide)) rfl T.m_are_periods T.F_are_periods.kp (b_are_periods T) .nil pass0 (pa_cons (pv 0) (pa_nil))))) (pss_one (ps_never)) (pss_nil))
      (pss_cons (ps_expr (pe_call (ok_need_entries T) (hr.mono (by decide)) rfl T.m_need_entries T.F_need_entries.kp (b_need_entries T) .nil pass0 (pa_cons (pv 1) (pa_cons (pv 0) (pa_nil)))))
      (pss_cons (ps_expr (pe_call (ok_need_from T) (hr.mono (by decide)) rfl T.m_need_from T.F_need_from.kp (b_need_from T) .nil pass0 (pa_cons (pv 2) (pa_cons (pe_int) (pa_nil)))))
      (pss_one (ps_ret (pe_callTy call_tuple_of (by rfl) T.n_tuple (by decide +kernel) (pa_cons (pe_lc (own := [("place", 3), ("period", 4)]) (tt := tYes) rfl sc_plays.nd (pi_enum2 (by rfl) T.n_enumerate (pa_cons (pv 0) pa_nil)) (blkOk_by (own := [("place", 3), ("period", 4)]) (N := ["periods", "entries", "skip", "place", "period"]) (sc := defScope s_plays) (by decide +kernel)) (fun _ _ _ _ _ => pg_tup2 K 2 (by rfl) (by rfl) (pgs_cons (pg_name (i := 3) sc_plays.nd rfl (Or.inl rfl)) (pgs_cons (pg_name (i := 4) sc_plays.nd rfl (Or.inl rfl)) (pgs_nil)))) (fun _ _ _ _ _ => pts_nil) (fun _ _ _ _ _ => pe_call (ok_stretch_of T) (hr.mono (by decide)) rfl T.m_stretch_of T.F_stretch_of.kp (b_stretch_of T) .nil pass0 (pa_cons (pv 4) (pa_cons (pe_call (ok_offsets_at T) (hr.mono (by decide)) rfl T.m_offsets_at T.F_offsets_at.kp (b_offsets_at T) .nil pass0 (pa_cons (pv 1) (pa_cons (pv 3) (pa_cons (pv 4) (pa_nil))))) (pa_cons (pv 2) (pa_nil)))))) (pa_nil))))))), ?_⟩
    refine ⟨_, rfl, b, ps, rfl, hb, l1, l8, hp, fun H1 s1 => ⟨true, rfl, iteF ?_⟩⟩
    have ha := ha.same s1
    have hb := hb.same s1
    have hE := hE.same s1
    refine ⟨_, rfl, _, rfl, a, b, xs, es, ps, rfl, ha, hE, le, hb, ok, fun H2 s2 => ?_⟩
    have ha := ha.same s2
    have hb := hb.same s2
    have hE := hE.same s2
    refine ⟨_, rfl, kk, 0, rfl, k0, ?_⟩
    have lps : (ps.map V.int).length = ps.length := List.length_map ..
    refine ⟨_, rfl, b, ps.map V.int, rfl, lc_en2 hb.two (fun D i G => Same H2 G ∧ ∃ ws : List V, G D = some (.lst ws) ∧ StsV T.a_Stretch (hideA D G) ws es kk ps i) (fun D hD => ⟨same_new hD, [], upd_same, rfl, fun i y e => by simp at e⟩) (fun D i G _ _ z => z.1) ?_ ?_⟩
    · rintro D hD i x G c hx ⟨s3, ws, hDG, hW⟩ hc
      rw [List.getElem?_map] at hx
      obtain ⟨p, hpi, rfl⟩ := Option.map_eq_some_iff.mp hx
      have li := (List.getElem?_eq_some_iff.mp hpi).1
      obtain ⟨p2, p3⟩ := hp p (List.mem_of_getElem? hpi)
      have sc := same_new (o := .tup [.int (i : Nat), .int p]) hc
      refine ⟨c, _, rfl, SqT.of upd_same, rfl, _, _, rfl, _, _, rfl, rfl, ?_⟩
      have s4 := s3.trans sc
      have hDG := sc _ _ hDG
      have scG := sc
      generalize upd G c (.tup [.int (i : Nat), .int p]) = G2 at s4 hDG scG ⊢
      refine ⟨rfl, _, rfl, _, rfl, _, rfl, _, rfl, tNil_to ⟨a, i, p, xs, es, rfl, ha.same s4, hE.same s4, le, by omega, fun e he => by rw [(ok e he).l]; exact li, fun l ts G3 s5 hl3 hT3 => ?_⟩⟩
      refine ⟨_, rfl, tNil_to ⟨p, kk, l, ts, _, rfl, hl3, hT3, Nat.le_trans (offsN_len _ (Nat.le_refl _)) le, by omega, k0, fun x lt G4 b' w' s6 hN hlt st => ?_⟩⟩
      have s56 := s5.trans s6
      have hD4 := s56 _ _ hDG
      obtain ⟨dx, hx4⟩ := id st
      have nx : x ≠ D := fun z => by rw [z, hD4] at hx4; cases hx4
      have nl : lt ≠ D := fun z => by rw [z, hD4] at hlt; cases hlt
      refine ⟨_, hD4, ?_, same_up (s4.trans s56) hD, ws ++ [.ref x], upd_same, ?_⟩
      · have := hW.1
        exact Nat.lt_of_le_of_lt (show ws.length ≤ 8 by omega) (by decide)
      · have sH : Same (hideA D G) (hideA D (upd G4 D (.lst (ws ++ [.ref x])))) := hide_up fun q o n e => by rw [upd_ne n]; exact s56 _ _ (scG _ _ e)
        have hW := hW.same sH
        refine ⟨by rw [List.length_append, hW.1]; rfl, fun j y e => ?_⟩
        rcases Nat.lt_or_ge j ws.length with z | z
        · rw [List.getElem?_append_left z] at e
          exact hW.2 j y e
        · rw [List.getElem?_append_right z] at e
          have e0 : j - ws.length = 0 := by
            have := (List.getElem?_eq_some_iff.mp e).1
            simp at this
            omega
          rw [e0] at e
          cases e
          have ej : j = i := by have := hW.1; omega
          subst ej
          refine ⟨x, p, b', w', _, rfl, hpi, ⟨lt, ⟨dx, ?_⟩, ?_⟩, hN, rfl⟩
          · rw [hide_ne nx, upd_ne nx]
            exact hx4
          · rw [hide_ne nl, upd_ne nl]
            exact hlt
    · rintro D hD G ⟨s3, ws, hDG, hW⟩
      rw [lps] at hW
      refine tNil_to ⟨D, ws, rfl, .inl ⟨SqL.of hDG, fun t ht => ?_⟩⟩
      have s4 := same_new (o := .tup ws) ht
      exact k t _ ws (s1.trans (s2.trans (s3.trans s4))) upd_same ((hW.same hide_sub).same s4)

theorem Fr.tup {p : Addr} {H H' : Hp} (f : Fr p H H') (hp : ∃ xs, H p = some (.lst xs)) : ∀ (t : Addr) (zs : List V), H t = some (.tup zs) → H' t = some (.tup zs) := fun t zs e => f.keep _ _ (fun z => by obtain ⟨xs, q⟩ := hp; rw [z, q] at e; cases e) e
theorem Pen.lst {H : Hp} {p : Addr} {n : Nat} (h : Pen H p n) : ∃ xs, H p = some (.lst xs) := by
  obtain ⟨c, ns, i, g, h1, _⟩ := h
  exact ⟨_, h1⟩
def WhsAt (H : Hp) (xs : List V) (ps : List Int) : Prop := xs.length = ps.length ∧ ∀ (i : Nat) (y : V), xs[i]? = some y → ∃ (t : Addr) (q u v : Int) (b : Bool), y = .ref t ∧ ps[i]? = some q ∧ H t = some (.tup [.int q, .int u, .int v, .bl b])
theorem WhsAt.but {H H' : Hp} {xs : List V} {ps : List Int} (s : ∀ (t : Addr) (zs : List V), H t = some (.tup zs) → H' t = some (.tup zs)) (h : WhsAt H xs ps) : WhsAt H' xs ps := ⟨h.1, fun i y e => by
  obtain ⟨t, q, u, v, b, e1, e2, e3⟩ := h.2 i y e
  exact ⟨t, q, u, v, b, e1, e2, s _ _ e3⟩⟩
theorem WhsAt.snoc {H : Hp} {xs : List V} {ps : List Int} {t : Addr} {q u v : Int} {b : Bool} (h : WhsAt H xs ps) (ht : H t = some (.tup [.int q, .int u, .int v, .bl b])) : WhsAt H (xs ++ [.ref t]) (ps ++ [q]) := by
  refine ⟨by rw [List.length_append, List.length_append, h.1]; rfl, fun i y e => ?_⟩
  rcases Nat.lt_or_ge i xs.length with z | z
  · rw [List.getElem?_append_left z] at e
    obtain ⟨t', q', u', v', b', e1, e2, e3⟩ := h.2 i y e
    exact ⟨t', q', u', v', b', e1, by rw [List.getElem?_append_left (by rw [← h.1]; exact z)]; exact e2, e3⟩
  · rw [List.getElem?_append_right z] at e
    have e0 : i - xs.length = 0 := by
      have := (List.getElem?_eq_some_iff.mp e).1
      simp at this
      omega
    rw [e0] at e
    cases e
    refine ⟨t, q, u, v, b, rfl, ?_, ht⟩
    rw [List.getElem?_append_right (by rw [← h.1]; exact z), ← h.1, e0]
    rfl
theorem Pen.app {H H' : Hp} {p cc L : Addr} {n : Nat} {o : HO} {ys : List V} (hP : Pen H' p n) (f : Fr p H H') (hp0 : H p = some (.lst (.ref cc :: ys))) (ncL : cc ≠ L) (nLp : L ≠ p) : Pen (upd H' L o) p n := by
  obtain ⟨c, ns, i0, g, q1, q2, q3⟩ := hP
  obtain ⟨ys', q4⟩ := f.head _ _ hp0
  rw [q1] at q4
  cases q4
  exact ⟨cc, ns, i0, g, by rw [upd_ne nLp.symm]; exact q1, by rw [upd_ne ncL]; exact q2, q3⟩
theorem Fr.app {H H' : Hp} {p L : Addr} {o : HO} (f : Fr p H H') (hL : H L = Option.none) (nLp : L ≠ p) : Fr p H (upd H' L o) := by
  refine ⟨fun a o' na e => ?_, fun v xs e => ?_⟩
  · rw [upd_ne (ne_of_none e hL)]
    exact f.keep a o' na e
  · rw [upd_ne nLp.symm]
    exact f.head v xs e
def spWheels : Sp := fun vs H Q _ => ∃ (p : Addr) (most : Int) (n : Nat), vs = [.ref p, .int most] ∧ 0 < most ∧ most ≤ 8 ∧ Pen H p n ∧ n < 90000 ∧
  ∀ (l : Addr) (H' : Hp) (xs : List V) (ps : List Int), H' l = some (.lst xs) → H l = Option.none → WhsAt H' xs ps → 1 ≤ ps.length → (ps.length : Int) ≤ most → (∀ q ∈ ps, 2 ≤ q ∧ q ≤ 1000000000000) → Pen H' p (n + 60) → Fr p H H' → Q (.ref l) H'
theorem ok_wheels (T : Txt K mg) : FnOk P w K mg base CX0 3 T.a_wheels T.fd_wheels ["_law_pen_here", "_law_most"] spWheels := by
  refine T.F_wheels.ok sc_wheels (fun vs H Q E h => ?_) (fun cdv A outer s H vs Q E hr h => ?_)
  · obtain ⟨p, most, n, rfl, _⟩ := h; rfl
  · obtain ⟨p, most, n, rfl, m0, m8, hP, hn, k⟩ := h
    refine ⟨_, pss_cons (ps_set (i := 2) sc_wheels.nd rfl (Or.inl rfl) (pe_lst (pa_nil)))
      (pss_cons (ps_for PassesOwn.never rfl (pi_range1 (by rfl) T.n_range (pa_cons (pe_op op_add (pe_int) (pe_call (ok_draw T) (hr.mono (by decide)) rfl T.m_draw T.F_draw.kp (b_draw T) .nil pass0 (pa_cons (pv 0) (pa_cons (pv 1) (pa_nil))))) (pa_nil))) (pg_name (i := 3) sc_wheels.nd rfl (Or.inl rfl)) (pss_cons (ps_set (i := 4) sc_wheels.nd rfl (Or.inl rfl) (pe_call (ok_pick T) (hr.mono (by decide)) rfl T.m_pick T.F_pick.kp (b_pick T) .nil pass0 (pa_cons (pv 0) (pa_cons (pe_lst (pa_cons (pe_op op_add (pe_int) (pe_call (ok_draw T) (hr.mono (by decide)) rfl T.m_draw T.F_draw.kp (b_draw T) .nil pass0 (pa_cons (pv 0) (pa_cons (pe_int) (pa_nil))))) (pa_cons (pe_op op_add (pe_int) (pe_call (ok_draw T) (hr.mono (by decide)) rfl T.m_draw T.F_draw.kp (b_draw T) .nil pass0 (pa_cons (pv 0) (pa_cons (pe_int) (pa_nil))))) (pa_cons (pe_op op_pow (pe_int) (pe_int)) (pa_cons (pe_int) (pa_cons (pe_op op_add (pe_op op_pow (pe_int) (pe_int)) (pe_int)) (pa_nil))))))) (pa_nil)))))
      (pss_cons (ps_set (i := 5) sc_wheels.nd rfl (Or.inl rfl) (pe_tup (pa_cons (pv 4) (pa_cons (pe_call (ok_draw T) (hr.mono (by decide)) rfl T.m_draw T.F_draw.kp (b_draw T) .nil pass0 (pa_cons (pv 0) (pa_cons (pe_int) (pa_nil)))) (pa_cons (pe_call (ok_draw T) (hr.mono (by decide)) rfl T.m_draw T.F_draw.kp (b_draw T) .nil pass0 (pa_cons (pv 0) (pa_cons (pe_int) (pa_nil)))) (pa_cons (pe_bl) (pa_nil)))))))
      (pss_one (ps_expr (pe_bm PySem.F.plainAttrs_list PySem.F.slot_list_append PySem.F.type_list_append mt_append (pv 2) (pa_cons (pe_ifExp (pt_cmpR op_eq (pe_call (ok_draw T) (hr.mono (by decide)) rfl T.m_draw T.F_draw.kp (b_draw T) .nil pass0 (pa_cons (pv 0) (pa_cons (pe_int) (pa_nil)))) (pe_int) (nomark _)) (pe_tup (pa_cons (pv 4) (pa_cons (pe_int) (pa_cons (pe_int) (pa_cons (pe_bl) (pa_nil)))))) (pv 5)) (pa_nil))))))))
      (pss_one (ps_ret (pv 2)))), ?_⟩
    refine ⟨Nat.zero_le _, fun D hD => ?_⟩
    have nD : D ≠ p := hP.neq hD
    have s1 := same_new (o := .lst []) hD
    have hP1 := hP.same s1
    obtain ⟨cp, nsp, ip, gp, hpen, hcp, _⟩ := id hP
    refine ⟨_, rfl, _, rfl, p, most, n, rfl, m0, by omega, hP1, by omega, fun r H2 r0 r1 hP2 f2 => ?_⟩
    refine ⟨_, _, rfl, rfl, 1 + r, rfl, by omega, by omega, for_range (lo := 0) (n := (1 + r).toNat) (fun i σ G => ∃ (x3 x4 x5 : Option V) (xs : List V) (ps : List Int), σ = [some (.ref p), some (.int most), some (.ref D), x3, x4, x5] ∧ G D = some (.lst xs) ∧ WhsAt G xs ps ∧ ps.length = i ∧ (∀ q ∈ ps, 2 ≤ q ∧ q ≤ 1000000000000) ∧ Pen G p (n + 1 + 6 * i) ∧ Fr p H G) ?_ ?_ ?_⟩
    · exact ⟨_, _, _, [], [], rfl, f2.keep _ _ nD upd_same, ⟨rfl, fun i y e => by simp at e⟩, rfl, fun q hq => absurd hq List.not_mem_nil, hP2, (same_fr s1).trans f2⟩
    · rintro i σ G hi ⟨x3, x4, x5, xs, ps, rfl, hDG, hW, li, hps, hPG, fG⟩
      have i8 : i < 8 := by omega
      refine ⟨_, rfl, _, rfl, p, 11, n + 1 + 6 * i, rfl, by decide, by decide, hPG, by omega, fun a1 G1 a10 a11 hP1 f1 => ?_⟩
      refine ⟨_, _, rfl, rfl, _, rfl, p, 11, n + 2 + 6 * i, rfl, by decide, by decide, hP1.mono (by omega), by omega, fun a2 G2 a20 a21 hP2 f2 => ?_⟩
      refine ⟨_, _, rfl, rfl, 10, 12, rfl, rfl, ⟨by decide, by decide, by decide⟩, 10, 9, rfl, rfl, ⟨by decide, by decide, by decide⟩, _, _, rfl, rfl, (by show 5 ≤ sizeLine; decide), fun L hL => ?_⟩
      have sL := same_new (o := .lst [.int (2 + a1), .int (2 + a2), .int (10 ^ (12 : Int).toNat), .int 360, .int (10 ^ (9 : Int).toNat + 7)]) hL
      refine ⟨p, L, _, n + 3 + 6 * i, rfl, SqL.of upd_same, hP2.neq hL, (by show 0 < 5; decide), (by show 5 < 1000000; decide), (hP2.mono (by omega)).same sL, by omega, fun x G3 hx hP3 f3 => ?_⟩
      obtain ⟨q, rfl, q2, q3⟩ : ∃ q : Int, x = V.int q ∧ 2 ≤ q ∧ q ≤ 1000000000000 := by
        simp only [List.mem_cons, List.not_mem_nil, or_false] at hx
        rcases hx with rfl | rfl | rfl | rfl | rfl
        · exact ⟨_, rfl, by omega, by omega⟩
        · exact ⟨_, rfl, by omega, by omega⟩
        · exact ⟨_, rfl, by decide +kernel, by decide +kernel⟩
        · exact ⟨_, rfl, by decide, by decide⟩
        · exact ⟨_, rfl, by decide +kernel, by decide +kernel⟩
      have F3 := f1.trans (f2.trans ((same_fr sL).trans f3))
      refine ⟨_, rfl, _, rfl, p, 3, n + 4 + 6 * i, rfl, by decide, by decide, hP3.mono (by omega), by omega, fun u G4 u0 u1 hP4 f4 => ?_⟩
      refine ⟨_, rfl, p, 3, n + 5 + 6 * i, rfl, by decide, by decide, hP4.mono (by omega), by omega, fun v G5 v0 v1 hP5 f5 => ?_⟩
      refine ⟨(by show 4 ≤ sizeLine; decide), fun c hc => ?_⟩
      have sc := same_new (o := .tup [.int q, .int u, .int v, .bl false]) hc
      have F5 := F3.trans (f4.trans (f5.trans (same_fr sc)))
      have hD5 := F5.keep _ _ nD hDG
      refine ⟨_, rfl, .inl ⟨rfl, _, SqL.of hD5⟩, _, rfl, p, 5, n + 6 + 6 * i, rfl, by decide, by decide, (hP5.mono (by omega)).same sc, by omega, fun z G6 z0 z1 hP6 f6 => ?_⟩
      have F6 := F5.trans f6
      have hD6 := f6.keep _ _ nD hD5
      have hc6 : G6 c = some (.tup [.int q, .int u, .int v, .bl false]) := f6.tup (hP5.same sc).lst _ _ upd_same
      have hW6 := hW.but (F6.tup hPG.lst)
      have ncc : cp ≠ D := ne_of_none hcp hD
      have lx : xs.length = i := by rw [hW.1, li]
      have fin : ∀ (G7 : Hp) (e : Addr) (w1 w2 : Int) (b : Bool), Same G6 G7 → G7 e = some (.tup [.int q, .int w1, .int w2, .bl b]) → ∃ (x3 x4 x5 : Option V) (xs' : List V) (ps' : List Int), [some (.ref p), some (.int most), some (.ref D), some (.int (0 + (i : Int))), some (.int q), some (.ref c)] = [some (.ref p), some (.int most), some (.ref D), x3, x4, x5] ∧ (upd G7 D (.lst (xs ++ [.ref e]))) D = some (.lst xs') ∧ WhsAt (upd G7 D (.lst (xs ++ [.ref e]))) xs' ps' ∧ ps'.length = i + 1 ∧ (∀ q ∈ ps', 2 ≤ q ∧ q ≤ 1000000000000) ∧ Pen (upd G7 D (.lst (xs ++ [.ref e]))) p (n + 1 + 6 * (i + 1)) ∧ Fr p H (upd G7 D (.lst (xs ++ [.ref e]))) := fun G7 e w1 w2 b s7 he => by
        have hD7 := s7 _ _ hD6
        have F7 := fG.trans (F6.trans (same_fr s7))
        have tu : ∀ (t : Addr) (zs : List V), G7 t = some (.tup zs) → (upd G7 D (.lst (xs ++ [.ref e]))) t = some (.tup zs) := fun t zs h => by
          rw [upd_ne (fun z => by rw [z, hD7] at h; cases h)]
          exact h
        refine ⟨_, _, _, xs ++ [.ref e], ps ++ [q], rfl, upd_same, ((hW6.but fun t zs h => s7 _ _ h).snoc he).but tu, by rw [List.length_append, li]; rfl, fun y hy => ?_, ?_, F7.app hD nD⟩
        · rcases List.mem_append.mp hy with hy | hy
          · exact hps y hy
          · rw [List.mem_singleton.mp hy]
            exact ⟨q2, q3⟩
        · exact Pen.app ((hP6.same s7).mono (by omega)) F7 hpen ncc nD
      refine ⟨rfl, _, rfl, ?_⟩
      by_cases z00 : z = 0
      · refine if_true_of (by rw [z00]; rfl) ?_
        refine ⟨_, rfl, (by show 4 ≤ sizeLine; decide), fun e he => ?_⟩
        have s7 := same_new (o := .tup [.int q, .int 0, .int 0, .bl true]) he
        exact ⟨D, _, _, rfl, rfl, s7 _ _ hD6, by rw [lx]; exact Nat.lt_of_lt_of_le (show i < 9 by omega) (by decide), fin _ e 0 0 true s7 upd_same⟩
      · refine if_false_of (decide_eq_false (fun h => by injection h with h; omega)) ?_
        exact ⟨_, rfl, D, _, _, rfl, rfl, hD6, by rw [lx]; exact Nat.lt_of_lt_of_le (show i < 9 by omega) (by decide), fin _ c u v false (fun _ _ z => z) hc6⟩
    · rintro σ G ⟨x3, x4, x5, xs, ps, rfl, hDG, hW, li, hps, hPG, fG⟩
      exact ⟨_, rfl, k D G xs ps hDG hD hW (by omega) (by omega) hps (hPG.mono (by omega)) fG⟩

noncomputable def hide2 (d D : Addr) (H : Hp) : Hp := hideA d (hideA D H)
theorem hide2_sub {d D : Addr} {H : Hp} : Same (hide2 d D H) H := hide_sub.trans hide_sub
theorem hide2_d {d D : Addr} {H : Hp} : hide2 d D H d = Option.none := by unfold hide2 hideA; rw [if_pos rfl]
theorem hide2_D {d D : Addr} {H : Hp} : hide2 d D H D = Option.none := by
  unfold hide2 hideA
  by_cases h : D = d
  · rw [if_pos h]
  · rw [if_neg h, if_pos rfl]
theorem hide2_ne {d D b : Addr} {H : Hp} (h1 : b ≠ d) (h2 : b ≠ D) : hide2 d D H b = H b := by unfold hide2; rw [hide_ne h1, hide_ne h2]
theorem EntsAt.snoc {G G9 : Hp} {p D t a : Addr} {v : V} {ys xs : List V} {es : List (Int × List (Option Int))} {e : Int × List (Option Int)} (hV : EntsAt (hide2 D p G) xs es) (f : Fr p G G9) (hp : G p = some (.lst (v :: ys))) (hD : G D = some (.lst xs)) (n : D ≠ p) (ht : G9 t = some (.tup [.int e.1, .ref a])) (ha : SeqA G9 a (e.2.map mV)) (a1 : a ≠ D) (a2 : a ≠ p) :
    EntsAt (hide2 D p (upd G9 D (.lst (xs ++ [.ref t])))) (xs ++ [.ref t]) (es ++ [e]) := by
  have hD9 := f.keep _ _ n hD
  obtain ⟨ys', hp9⟩ := f.head _ _ hp
  have s : Same (hide2 D p G) (hide2 D p (upd G9 D (.lst (xs ++ [.ref t])))) := fun b o q => by
    by_cases b1 : b = D
    · rw [b1, hide2_d] at q; cases q
    · by_cases b2 : b = p
      · rw [b2, hide2_D] at q; cases q
      · rw [hide2_ne b1 b2] at q ⊢
        rw [upd_ne b1]
        exact f.keep _ _ b2 q
  have out : ∀ (b : Addr) (o : HO), G9 b = some o → b ≠ D → b ≠ p → hide2 D p (upd G9 D (.lst (xs ++ [.ref t]))) b = some o := fun b o q b1 b2 => by
    rw [hide2_ne b1 b2, upd_ne b1]
    exact q
  have new : EntryAt (hide2 D p (upd G9 D (.lst (xs ++ [.ref t])))) t e := ⟨a, out _ _ ht (fun z => by rw [z, hD9] at ht; cases ht) (fun z => by rw [z, hp9] at ht; cases ht), ha.elim (fun h => .inl (out _ _ h a1 a2)) fun h => .inr (out _ _ h a1 a2)⟩
  refine ⟨by rw [List.length_append, List.length_append, hV.1]; rfl, fun i y q => ?_⟩
  rcases Nat.lt_or_ge i xs.length with z | z
  · rw [List.getElem?_append_left z] at q
    obtain ⟨t', d', e1, e2, e3⟩ := hV.2 i y q
    exact ⟨t', d', e1, by rw [List.getElem?_append_left (by rw [← hV.1]; exact z)]; exact e2, e3.same s⟩
  · rw [List.getElem?_append_right z] at q
    have e0 : i - xs.length = 0 := by
      have := (List.getElem?_eq_some_iff.mp q).1
      simp at this
      omega
    rw [e0] at q
    cases q
    refine ⟨t, e, rfl, ?_, new⟩
    rw [List.getElem?_append_right (by rw [← hV.1]; exact z), ← hV.1, e0]
    rfl
def OkMarks (ps : List Int) (ms : List (Option Int)) : Prop := ∀ (i : Nat) (x q : Int), ms[i]? = some (some x) → ps[i]? = some q → 0 ≤ x ∧ x < q
theorem OkMarks.snoc {ps : List Int} {ms : List (Option Int)} {m : Option Int} {q : Int} (h : OkMarks ps ms) (hq : ps[ms.length]? = some q) (hm : ∀ x, m = some x → 0 ≤ x ∧ x < q) : OkMarks ps (ms ++ [m]) := fun i x r h1 h2 => by
  rcases Nat.lt_or_ge i ms.length with z | z
  · rw [List.getElem?_append_left z] at h1
    exact h i x r h1 h2
  · rw [List.getElem?_append_right z] at h1
    have e0 : i - ms.length = 0 := by
      have := (List.getElem?_eq_some_iff.mp h1).1
      simp at this
      omega
    rw [e0] at h1
    cases h1
    have ei : i = ms.length := by omega
    rw [ei, hq] at h2
    cases h2
    exact hm x rfl
def spEntries : Sp := fun vs H Q _ => ∃ (p w : Addr) (ws : List V) (ps : List Int) (n : Nat), vs = [.ref p, .ref w, .int 9] ∧ H w = some (.lst ws) ∧ w ≠ p ∧ WhsAt H ws ps ∧ ps.length ≤ 8 ∧ (∀ q ∈ ps, 2 ≤ q ∧ q ≤ 1000000000000) ∧ Pen H p n ∧ n < 80000 ∧
  ∀ (l : Addr) (H' : Hp) (xs : List V) (es : List (Int × List (Option Int))), H' l = some (.lst xs) → H l = Option.none → EntsAt (hide2 l p H') xs es → es.length ≤ 9 → (∀ e ∈ es, OkEnt ps e) → Pen H' p (n + 300) → Fr p H H' → Q (.ref l) H'
theorem ok_entries (T : Txt K mg) : FnOk P w K mg base CX0 3 T.a_entries T.fd_entries ["_law_pen_here", "_law_plains", "_law_most"] spEntries := by
  refine T.F_entries.ok sc_entries (fun vs H Q E h => ?_) (fun cdv A outer s H vs Q E hr h => ?_)
  · obtain ⟨p, w', ws, ps, n, rfl, _⟩ := h; rfl
  · obtain ⟨p, w', ws, ps, n, rfl, hw, nw, hWs, l8, hps, hP, hn, k⟩ := h
    refine ⟨_, pss_cons (ps_set (i := 3) sc_entries.nd rfl (Or.inl rfl) (pe_lst (pa_nil)))
      (pss_cons (ps_for PassesOwn.never rfl (pi_range1 (by rfl) T.n_range (pa_cons (pe_call (ok_draw T) (hr.mono (by decide)) rfl T.m_draw T.F_draw.kp (b_draw T) .nil pass0 (pa_cons (pv 0) (pa_cons (pe_op op_add (pv 2) (pe_int)) (pa_nil)))) (pa_nil))) (pg_name (i := 4) sc_entries.nd rfl (Or.inl rfl)) (pss_cons (ps_par (i := 5) (j := 6) (by rfl) sc_entries.nd rfl rfl (by decide) rfl rfl (pa_cons (pe_call (ok_pick T) (hr.mono (by decide)) rfl T.m_pick T.F_pick.kp (b_pick T) .nil pass0 (pa_cons (pv 0) (pa_cons (pe_lst (pa_cons (pe_op op_sub (pe_call (ok_draw T) (hr.mono (by decide)) rfl T.m_draw T.F_draw.kp (b_draw T) .nil pass0 (pa_cons (pv 0) (pa_cons (pe_int) (pa_nil)))) (pe_int)) (pa_cons (pe_op op_sub (pe_op op_sub (pe_op op_pow (pe_int) (pe_int)) (pe_int)) (pe_call (ok_draw T) (hr.mono (by decide)) rfl T.m_draw T.F_draw.kp (b_draw T) .nil pass0 (pa_cons (pv 0) (pa_cons (pe_int) (pa_nil))))) (pa_cons (pe_call (ok_draw T) (hr.mono (by decide)) rfl T.m_draw T.F_draw.kp (b_draw T) .nil pass0 (pa_cons (pv 0) (pa_cons (pe_op op_pow (pe_int) (pe_int)) (pa_nil)))) (pa_nil))))) (pa_nil)))) (pa_cons (pe_lst (pa_nil)) (pa_nil))) (by rfl))
      (pss_cons (ps_for PassesOwn.never rfl (pi_list (pv 1)) (pg_name (i := 7) sc_entries.nd rfl (Or.inl rfl)) (pss_cons (ps_set (i := 8) sc_entries.nd rfl (Or.inl rfl) (pe_call (ok_pick T) (hr.mono (by decide)) rfl T.m_pick T.F_pick.kp (b_pick T) .nil pass0 (pa_cons (pv 0) (pa_cons (pe_lst (pa_cons (pe_int) (pa_cons (pe_int) (pa_cons (pe_int) (pa_cons (pe_un un_neg (pe_int)) (pa_cons (pe_int) (pa_cons (pe_un un_neg (pe_int)) (pa_cons (pe_int) (pa_cons (pe_call (ok_draw T) (hr.mono (by decide)) rfl T.m_draw T.F_draw.kp (b_draw T) .nil pass0 (pa_cons (pv 0) (pa_cons (pe_ix ix_tup (pv 7) (pe_int) (fun _ _ => rfl)) (pa_nil)))) (pa_nil)))))))))) (pa_nil)))))
      (pss_one (ps_expr (pe_bm PySem.F.plainAttrs_list PySem.F.slot_list_append PySem.F.type_list_append mt_append (pv 6) (pa_cons (pe_ifExp (pt_cmpR op_eq (pe_call (ok_draw T) (hr.mono (by decide)) rfl T.m_draw T.F_draw.kp (b_draw T) .nil pass0 (pa_cons (pv 0) (pa_cons (pe_int) (pa_nil)))) (pe_int) (nomark _)) (pe_non) (pe_op op_modN (pe_callTy call_int1 (by rfl) T.n_int (by decide +kernel) (pa_cons (pe_op op_add (pv 5) (pv 8)) (pa_nil))) (pe_ix ix_tup (pv 7) (pe_int) (fun _ _ => rfl)))) (pa_nil)))))))
      (pss_one (ps_expr (pe_bm PySem.F.plainAttrs_list PySem.F.slot_list_append PySem.F.type_list_append mt_append (pv 3) (pa_cons (pe_tup (pa_cons (pv 5) (pa_cons (pe_ifExp (pt_cmpR op_eq (pe_call (ok_draw T) (hr.mono (by decide)) rfl T.m_draw T.F_draw.kp (b_draw T) .nil pass0 (pa_cons (pv 0) (pa_cons (pe_int) (pa_nil)))) (pe_int) (nomark _)) (pe_callTy call_tuple_of (by rfl) T.n_tuple (by decide +kernel) (pa_cons (pv 6) (pa_nil))) (pv 6)) (pa_nil)))) (pa_nil))))))))
      (pss_one (ps_ret (pv 3)))), ?_⟩
    refine ⟨Nat.zero_le _, fun D hD => ?_⟩
    have nD : D ≠ p := hP.neq hD
    have s1 := same_new (o := .lst []) hD
    have hP1 := hP.same s1
    obtain ⟨cp, nsp, ip, gp, hpen, hcp, _⟩ := id hP
    refine ⟨_, rfl, _, rfl, _, _, rfl, rfl, p, 10, n, rfl, by decide, by decide, hP1, by omega, fun r H2 r0 r1 hP2 f2 => ?_⟩
    refine ⟨r, rfl, by omega, by omega, for_range (lo := 0) (n := r.toNat) (fun i σ G => ∃ (x4 x5 x6 x7 x8 : Option V) (xs : List V) (es : List (Int × List (Option Int))), σ = [some (.ref p), some (.ref w'), some (.int 9), some (.ref D), x4, x5, x6, x7, x8] ∧ G D = some (.lst xs) ∧ EntsAt (hide2 D p G) xs es ∧ es.length = i ∧ (∀ e ∈ es, OkEnt ps e) ∧ Pen G p (n + 1 + 30 * i) ∧ Fr p H G) ?_ ?_ ?_⟩
    · exact ⟨_, _, _, _, _, [], [], rfl, f2.keep _ _ nD upd_same, ⟨rfl, fun i y e => by simp at e⟩, rfl, fun q hq => absurd hq List.not_mem_nil, hP2, (same_fr s1).trans f2⟩
    · rintro i σ G hi ⟨x4, x5, x6, x7, x8, xs, es, rfl, hDG, hE, li, hes, hPG, fG⟩
      have i9 : i < 9 := by omega
      refine ⟨_, rfl, _, rfl, p, 100, n + 1 + 30 * i, rfl, by decide, by decide, hPG, by omega, fun a1 G1 a10 a11 hP1 f1 => ?_⟩
      refine ⟨_, _, rfl, rfl, 10, 30, rfl, rfl, ⟨by decide, by decide, by decide⟩, _, _, rfl, rfl, _, rfl, p, 9, n + 2 + 30 * i, rfl, by decide, by decide, hP1.mono (by omega), by omega, fun a2 G2 a20 a21 hP2 f2 => ?_⟩
      refine ⟨_, _, rfl, rfl, _, rfl, 10, 9, rfl, rfl, ⟨by decide, by decide, by decide⟩, p, _, n + 3 + 30 * i, rfl, by decide +kernel, by decide +kernel, hP2.mono (by omega), by omega, fun a3 G3 a30 a31 hP3 f3 => ?_⟩
      refine ⟨(by show 3 ≤ sizeLine; decide), fun L hL => ?_⟩
      have sL := same_new (o := .lst [.int (a1 - 30), .int (10 ^ (30 : Int).toNat - 1 - a2), .int a3]) hL
      refine tNil_to ⟨p, L, _, n + 4 + 30 * i, rfl, SqL.of upd_same, hP3.neq hL, (by show 0 < 3; decide), (by show 3 < 1000000; decide), (hP3.mono (by omega)).same sL, by omega, fun x G4 hx hP4 f4 => ?_⟩
      have e30 : (10 : Int) ^ (30 : Int).toNat = BIG := by decide +kernel
      have eB : BIG = 1000000000000000000000000000000 := rfl
      have e9 : (10 : Int) ^ (9 : Int).toNat = 1000000000 := by decide +kernel
      rw [e9] at a31
      obtain ⟨v, rfl, v0, v1⟩ : ∃ v : Int, x = V.int v ∧ -BIG < v ∧ v < BIG := by
        simp only [List.mem_cons, List.not_mem_nil, or_false] at hx
        rcases hx with rfl | rfl | rfl
        · exact ⟨_, rfl, by omega, by omega⟩
        · exact ⟨_, rfl, by omega, by omega⟩
        · exact ⟨_, rfl, by omega, by omega⟩
      have F4 := f1.trans (f2.trans ((f3.trans (same_fr sL)).trans f4))
      have hD4 := F4.keep _ _ nD hDG
      have hw4 := (fG.trans F4).keep _ _ nw hw
      have hW4 := hWs.but ((fG.trans F4).tup hP.lst)
      have nM4 : ∀ M, G4 M = Option.none → M ≠ D := fun M h z => by rw [z, hD4] at h; cases h
      refine ⟨Nat.zero_le _, fun M hM => ⟨_, _, rfl, ?_⟩⟩
      have nMD := nM4 M hM
      have nMp : M ≠ p := hP4.neq hM
      have sM := same_new (o := .lst []) hM
      have hM5 : (upd G4 M (.lst [])) M = some (.lst []) := upd_same
      have hP5 := hP4.same sM
      obtain ⟨c4, ns4, i4, g4, hpen4, hc4, _⟩ := id hP4
      have ncM : c4 ≠ M := ne_of_none hc4 hM
      generalize upd G4 M (.lst []) = G5 at sM hM5 hP5 ⊢
      refine ⟨_, rfl, w', rfl, ⟨_, SqL.of (sM _ _ hw4)⟩, for_list (K := K) (a := w') (xs := ws) (fun j σ G' => ∃ (x7 x8 : Option V) (ms : List (Option Int)), σ = [some (.ref p), some (.ref w'), some (.int 9), some (.ref D), some (.int (0 + (i : Int))), some (.int v), some (.ref M), x7, x8] ∧ G' M = some (.lst (ms.map mV)) ∧ ms.length = j ∧ OkMarks ps ms ∧ Pen G' p (n + 5 + 30 * i + 3 * j) ∧ Fr p G4 G') ⟨_, _, [], rfl, hM5, rfl, fun i x q h => by simp at h, hP5.mono (by omega), same_fr sM⟩ (fun j σ G' _ z => SqL.of (by obtain ⟨_, _, _, _, _, _, _, _, f⟩ := z; exact f.keep _ _ nw hw4)) ?_ ?_⟩
      · rintro j y σ G6 hy ⟨x7, x8, ms, rfl, hM6, lj, hms, hP6, f6⟩
        obtain ⟨t, q, u, z, b, rfl, hq, ht⟩ := hW4.2 j y hy
        have j8 : j < 8 := by have := (List.getElem?_eq_some_iff.mp hq).1; omega
        obtain ⟨q2, q3⟩ := hps q (List.mem_of_getElem? hq)
        have ht6 := f6.tup hP4.lst _ _ ht
        have big : (1000000000000 : Int) < 1267650600228229401496703205376 := by decide
        refine ⟨_, rfl, 1, rfl, 2, rfl, _, rfl, _, rfl, t, _, _, _, rfl, rfl, SqT.of ht6, rfl, p, q, n + 5 + 30 * i + 3 * j, rfl, by omega, by omega, hP6, by omega, fun d G7 d0 d1 hP7 f7 => ?_⟩
        refine ⟨(by show 8 ≤ sizeLine; decide), fun L2 hL2 => ?_⟩
        have sL2 := same_new (o := .lst [.int 0, .int 0, .int 1, .int (-1), .int 2, .int (-2), .int 3, .int d]) hL2
        refine tNil_to ⟨p, L2, _, n + 6 + 30 * i + 3 * j, rfl, SqL.of upd_same, hP7.neq hL2, (by show 0 < 8; decide), (by show 8 < 1000000; decide), (hP7.mono (by omega)).same sL2, by omega, fun x G8 hx hP8 f8 => ?_⟩
        obtain ⟨sl, rfl⟩ : ∃ sl : Int, x = V.int sl := by
          simp only [List.mem_cons, List.not_mem_nil, or_false] at hx
          rcases hx with rfl | rfl | rfl | rfl | rfl | rfl | rfl | rfl <;> exact ⟨_, rfl⟩
        have F8 := f7.trans ((same_fr sL2).trans f8)
        have hM8 := F8.keep _ _ nMp hM6
        have ht8 := F8.tup hP6.lst _ _ ht6
        refine ⟨_, rfl, .inl ⟨rfl, _, SqL.of hM8⟩, _, rfl, p, 7, n + 7 + 30 * i + 3 * j, rfl, by decide, by decide, hP8.mono (by omega), by omega, fun e G9 e0 e1 hP9 f9 => ?_⟩
        have hM9 := f9.keep _ _ nMp hM8
        have ht9 := f9.tup hP8.lst _ _ ht8
        have F9 := f6.trans (F8.trans f9)
        have hqj : ps[ms.length]? = some q := by rw [lj]; exact hq
        have fin : ∀ m : Option Int, (∀ x, m = some x → 0 ≤ x ∧ x < q) → ∃ (x7 x8 : Option V) (ms' : List (Option Int)), [some (.ref p), some (.ref w'), some (.int 9), some (.ref D), some (.int (0 + (i : Int))), some (.int v), some (.ref M), some (.ref t), some (.int sl)] = [some (.ref p), some (.ref w'), some (.int 9), some (.ref D), some (.int (0 + (i : Int))), some (.int v), some (.ref M), x7, x8] ∧ (upd G9 M (.lst (ms.map mV ++ [mV m]))) M = some (.lst (ms'.map mV)) ∧ ms'.length = j + 1 ∧ OkMarks ps ms' ∧ Pen (upd G9 M (.lst (ms.map mV ++ [mV m]))) p (n + 5 + 30 * i + 3 * (j + 1)) ∧ Fr p G4 (upd G9 M (.lst (ms.map mV ++ [mV m]))) := fun m hm =>
          ⟨_, _, ms ++ [m], rfl, by rw [upd_same, List.map_append]; rfl, by rw [List.length_append, lj]; rfl, hms.snoc hqj hm, Pen.app (hP9.mono (by omega)) F9 hpen4 ncM nMp, F9.app hM nMp⟩
        have lm : (ms.map mV).length < sizeLine := by rw [List.length_map, lj]; exact Nat.lt_of_lt_of_le (show j < 9 by omega) (by decide)
        refine ⟨rfl, _, rfl, ?_⟩
        by_cases e00 : e = 0
        · refine if_true_of (by rw [e00]; rfl) ?_
          exact ⟨M, _, _, rfl, rfl, hM9, lm, fin Option.none fun x h => by cases h⟩
        · refine if_false_of (decide_eq_false (fun h => by injection h with h; omega)) ?_
          refine ⟨_, rfl, _, rfl, _, _, rfl, rfl, .inl ⟨_, rfl, _, rfl, t, _, _, _, rfl, rfl, SqT.of ht9, rfl, _, _, rfl, rfl, (by omega), M, _, _, rfl, rfl, hM9, lm, fin (some ((v + sl).fmod q)) fun x h => ?_⟩⟩
          cases h
          exact fmod_pos (by omega)
      · rintro σ G6 ⟨x7, x8, ms, rfl, hM6, lj, hms, hP6, f6⟩
        have lps : ms.length = ps.length := by rw [lj, hWs.1]
        have F6 := F4.trans f6
        have hD6 := F6.keep _ _ nD hDG
        have lx : xs.length = i := by rw [hE.1, li]
        obtain ⟨cG, nsG, iG, gG, hpenG, hcG, _⟩ := id hPG
        have ok : OkEnt ps (v, ms) := ⟨v0, v1, lps, fun a x q h1 h2 => hms a x q h1 h2⟩
        have l8' : ps.length ≤ 8 := l8
        have wl : ws.length ≤ 8 := by rw [hWs.1]; exact l8
        refine ⟨_, rfl, .inl ⟨rfl, _, SqL.of hD6⟩, _, rfl, _, rfl, p, 2, n + 5 + 30 * i + 3 * ws.length, rfl, by decide, by decide, hP6, by omega, fun e G7 e0 e1 hP7 f7 => ?_⟩
        have F7 := F6.trans f7
        have hD7 := f7.keep _ _ nD hD6
        have hM7 := f7.keep _ _ nMp hM6
        have fin : ∀ (G8 : Hp) (t a : Addr), Same G7 G8 → G8 t = some (.tup [.int v, .ref a]) → SeqA G8 a (ms.map mV) → a ≠ D → a ≠ p → ∃ (x4 x5 x6 y7 y8 : Option V) (xs' : List V) (es' : List (Int × List (Option Int))), [some (.ref p), some (.ref w'), some (.int 9), some (.ref D), some (.int (0 + (i : Int))), some (.int v), some (.ref M), x7, x8] = [some (.ref p), some (.ref w'), some (.int 9), some (.ref D), x4, x5, x6, y7, y8] ∧ (upd G8 D (.lst (xs ++ [.ref t]))) D = some (.lst xs') ∧ EntsAt (hide2 D p (upd G8 D (.lst (xs ++ [.ref t])))) xs' es' ∧ es'.length = i + 1 ∧ (∀ e ∈ es', OkEnt ps e) ∧ Pen (upd G8 D (.lst (xs ++ [.ref t]))) p (n + 1 + 30 * (i + 1)) ∧ Fr p H (upd G8 D (.lst (xs ++ [.ref t]))) := fun G8 t a s8 ht ha a1 a2 =>
          ⟨_, _, _, _, _, xs ++ [.ref t], es ++ [(v, ms)], rfl, upd_same, EntsAt.snoc (e := (v, ms)) hE (F7.trans (same_fr s8)) hpenG hDG nD ht ha a1 a2, by rw [List.length_append, li]; rfl, fun e he => by
            rcases List.mem_append.mp he with he | he
            · exact hes e he
            · rw [List.mem_singleton.mp he]; exact ok, Pen.app ((hP7.same s8).mono (by omega)) (fG.trans (F7.trans (same_fr s8))) hpen (ne_of_none hcp hD) nD, (fG.trans (F7.trans (same_fr s8))).app hD nD⟩
        have lD : xs.length < sizeLine := by rw [lx]; exact Nat.lt_of_lt_of_le (show i < 10 by omega) (by decide)
        refine ⟨rfl, _, rfl, ?_⟩
        by_cases e00 : e = 0
        · refine if_true_of (by rw [e00]; rfl) ?_
          refine ⟨_, rfl, M, _, rfl, .inl ⟨SqL.of hM7, fun a ha => ⟨(by show 2 ≤ sizeLine; decide), fun t ht => ?_⟩⟩⟩
          have sa := same_new (o := .tup (ms.map mV)) ha
          have st := same_new (o := .tup [.int v, .ref a]) ht
          have nap : a ≠ p := hP7.neq ha
          have naD : a ≠ D := fun z => by rw [z, hD7] at ha; cases ha
          exact ⟨D, _, _, rfl, rfl, (sa.trans st) _ _ hD7, lD, fin _ t a (sa.trans st) upd_same (.inr (st _ _ upd_same)) naD nap⟩
        · refine if_false_of (decide_eq_false (fun h => by injection h with h; omega)) ?_
          refine ⟨_, rfl, (by show 2 ≤ sizeLine; decide), fun t ht => ?_⟩
          have st := same_new (o := .tup [.int v, .ref M]) ht
          exact ⟨D, _, _, rfl, rfl, st _ _ hD7, lD, fin _ t M st upd_same (.inl (st _ _ hM7)) nMD nMp⟩
    · rintro σ G ⟨x4, x5, x6, x7, x8, xs, es, rfl, hDG, hE, li, hes, hPG, fG⟩
      exact ⟨_, rfl, k D G xs es hDG hD hE (by omega) hes (hPG.mono (by omega)) fG⟩

def FarOk (p : Int) (os : List Int) (k c f : Int) : Prop := 0 ≤ f ∧ f < p ∧ NM.Valid p os k f c ∧ ∀ w, NM.Valid p os k w c → f ≤ w
theorem FarOk.uniq {p : Int} {os : List Int} {k c f g : Int} (h : FarOk p os k c f) (h' : FarOk p os k c g) : f = g := Int.le_antisymm (h.2.2.2 g h'.2.2.1) (h'.2.2.2 f h.2.2.1)
theorem least_ok {p : Int} {os : List Int} {k w b : Int} {qs : List (Int × Int)} {q0 : Int × Int} (h0 : 0 < p) (hr : ∀ o ∈ os, 0 ≤ o ∧ o < p) (kn : k ≤ (os.length : Nat)) (k0 : 0 < k) (hos : qs.map (·.2) = os) (hf : ∀ q ∈ qs, FarOk p os k q.2 q.1) (hq : q0 ∈ qs) (hmin : ∀ q ∈ qs, NM.lexLe q0.1 q0.2 q.1 q.2) (h : NM.Narrow p os k w b) : q0.1 = w ∧ q0.2 = b := by
  have at_ : ∀ c ∈ os, ∃ q ∈ qs, q.2 = c := fun c hc => by
    rw [← hos] at hc
    exact List.mem_map.mp hc
  have far : ∀ c ∈ os, FarOk p os k c (Classical.epsilon fun f => FarOk p os k c f) := fun c hc => by
    obtain ⟨q, hq, rfl⟩ := at_ c hc
    exact Classical.epsilon_spec (p := fun f => FarOk p os k q.2 f) ⟨q.1, hf q hq⟩
  have e : ∀ q ∈ qs, (Classical.epsilon fun f => FarOk p os k q.2 f) = q.1 := fun q hq => (far q.2 (hos ▸ List.mem_map.mpr ⟨q, hq, rfl⟩)).uniq (hf q hq)
  refine NM.least_law (far := fun c => Classical.epsilon fun f => FarOk p os k c f) h0 hr kn k0 far (hos ▸ List.mem_map.mpr ⟨q0, hq, rfl⟩) (e q0 hq).symm (fun c hc => ?_) h
  obtain ⟨q, hq, rfl⟩ := at_ c hc
  rw [e q hq]
  exact hmin q hq
def PairOk (p : Int) (os : List Int) (k : Int) (q : Int × Int) : Prop := (0 < k ∧ FarOk p os k q.2 q.1) ∨ (k ≤ 0 ∧ q = (0, 0))
/-- the indexes of those that are left out -/
def leftI (p b w : Int) (os : List Int) (n : Nat) : List Nat := (List.range n).filter fun x => !NM.inSt p b w (os.getD x 0)
theorem tIf_bs {σ : L2.St} {H : Hp} {R : VK} {m : Int} {a : Addr} {os : List Int} (h3 : σ[3]? = some (some (.int m))) (h1 : σ[1]? = some (some (.ref a))) (ha : H a = some (.lst (os.map V.int))) (h : ∀ (l0 : Addr) (bs : List Int) (G0 : Hp), Same H G0 → G0 l0 = some (.lst (bs.map V.int)) → ((m ≤ 0 ∧ bs = [0]) ∨ (0 < m ∧ bs = os)) → R (.ref l0) G0) :
    tIf (tTest (tOp (rI0 fun i j => V.bl (decide (i ≤ j))) (tVar 3) (tC (V.int 0)))) (tLst (tCons (tC (V.int 0)) tNil)) (tVar 1) σ H R := by
  refine ⟨_, h3, _, _, rfl, rfl, _, rfl, ?_⟩
  by_cases c : m ≤ 0
  · refine if_true_of (decide_eq_true c) ?_
    exact ⟨(by show 1 ≤ sizeLine; decide), fun l hl => h l [0] _ (same_new hl) upd_same (.inl ⟨c, rfl⟩)⟩
  · refine if_false_of (decide_eq_false c) ?_
    exact ⟨_, h1, h a os H (fun _ _ z => z) ha (.inr ⟨by omega, rfl⟩)⟩
def spLeastL : Sp := fun vs H Q _ => ∃ (p k : Int) (a : Addr) (os : List Int), vs = [.int p, .ref a, .int k] ∧ H a = some (.lst (os.map V.int)) ∧ os.length ≤ 60 ∧ 2 ≤ p ∧ 0 ≤ k ∧ (∀ o ∈ os, 0 ≤ o ∧ o < p) ∧
  ∀ (t l : Addr) (H' : Hp) (b w : Int), Same H H' → (∀ w0 b0, NM.Narrow p os ((os.length : Nat) - k) w0 b0 → w = w0 ∧ b = b0) → H' t = some (.tup [.int b, .int w, .ref l]) → H' l = some (.lst ((leftI p b w os os.length).map fun i : Nat => V.int i)) → Q (.ref t) H'
theorem ok_least (T : Txt K mg) : FnOk P w K mg base CX0 1 T.a_least T.fd_least ["_law_period", "_law_offsets", "_law_skip"] spLeastL := by
  refine T.F_least.ok sc_least (fun vs H Q E h => ?_) (fun cdv A outer s H vs Q E hr h => ?_)
  · obtain ⟨p, k, a, os, rfl, _⟩ := h; rfl
  · obtain ⟨p, k, a, os, rfl, ha, hl, p2, k0, hos, kk⟩ := h
    refine ⟨_, pss_cons (ps_par (i := 3) (j := 4) (by rfl) sc_least.nd rfl rfl (by decide) rfl rfl (pa_cons (pe_op op_sub (pe_callB call_len_seq (by rfl) T.n_len (by decide +kernel) (pa_cons (pv 1) (pa_nil))) (pv 2)) (pa_cons (pe_lst (pa_nil)) (pa_nil))) (by rfl))
      (pss_cons (ps_for PassesOwn.never rfl (pi_list (pe_ifExp (pt_cmpR op_le (pv 3) (pe_int) (nomark _)) (pe_lst (pa_cons (pe_int) (pa_nil))) (pv 1))) (pg_name (i := 5) sc_least.nd rfl (Or.inr rfl)) (pss_cons (ps_set (i := 6) sc_least.nd rfl (Or.inl rfl) (pe_callB cr_sorted (by rfl) T.n_sorted (by decide +kernel) (pa_cons (pe_lc (own := [("_law_offset", 7)]) (g := gName 7) (tt := tYes) rfl sc_least.nd (pi_list (pv 1)) (blkOk_by (own := [("_law_offset", 7)]) (N := ["_law_period", "_law_offsets", "_law_skip", "_law_many", "_law_found", "_law_begin", "_law_row", "_law_offset", "_law_width", "_law_far", "_law_least_here", "_law_at"]) (sc := defScope s_least) (by decide +kernel)) (fun _ _ _ _ _ => pg_name (i := 7) sc_least.nd rfl (Or.inl rfl)) (fun _ _ _ _ _ => pts_nil) (fun _ _ _ _ _ => pe_op op_modN (pe_callTy call_int1 (by rfl) T.n_int (by decide +kernel) (pa_cons (pe_op op_sub (pv 7) (pv 5)) (pa_nil))) (pv 0))) (pa_nil))))
      (pss_one (ps_expr (pe_bm PySem.F.plainAttrs_list PySem.F.slot_list_append PySem.F.type_list_append mt_append (pv 4) (pa_cons (pe_tup (pa_cons (pe_ifExp (pt_cmpR op_gt (pv 3) (pe_int) (nomark _)) (pe_ix ix_list (pv 6) (pe_op op_sub (pv 3) (pe_int)) (fun _ _ => rfl)) (pe_int)) (pa_cons (pv 5) (pa_nil)))) (pa_nil)))))))
      (pss_cons (ps_asg (pe_ix ix_list (pe_callB cr_sortedPO (by rfl) T.n_sorted (by decide +kernel) (pa_cons (pe_lc (own := [("_law_far", 9), ("_law_least_here", 10)]) (tt := tYes) rfl sc_least.nd (pi_list (pv 4)) (blkOk_by (own := [("_law_far", 9), ("_law_least_here", 10)]) (N := ["_law_period", "_law_offsets", "_law_skip", "_law_many", "_law_found", "_law_begin", "_law_row", "_law_offset", "_law_width", "_law_far", "_law_least_here", "_law_at"]) (sc := defScope s_least) (by decide +kernel)) (fun _ _ _ _ _ => pg_tup2 K 2 (by rfl) (by rfl) (pgs_cons (pg_name (i := 9) sc_least.nd rfl (Or.inl rfl)) (pgs_cons (pg_name (i := 10) sc_least.nd rfl (Or.inl rfl)) (pgs_nil)))) (fun _ _ _ _ _ => pts_nil) (fun _ _ _ _ _ => pe_tup (pa_cons (pe_callTy call_int1 (by rfl) T.n_int (by decide +kernel) (pa_cons (pv 9) (pa_nil))) (pa_cons (pe_callTy call_int1 (by rfl) T.n_int (by decide +kernel) (pa_cons (pv 10) (pa_nil))) (pa_nil))))) (pa_nil))) (pe_int) (fun _ _ => rfl)) (pg_tup rfl (pgs_cons (pg_name (i := 8) sc_least.nd rfl (Or.inr rfl)) (pgs_cons (pg_name (i := 5) sc_least.nd rfl (Or.inr rfl)) (pgs_nil)))))
      (pss_one (ps_ret (pe_tup (pa_cons (pv 5) (pa_cons (pv 8) (pa_cons (pe_lc (own := [("_law_at", 11), ("_law_offset", 7)]) rfl sc_least.nd (pi_enum (by rfl) T.n_enumerate (pa_cons (pv 1) pa_nil)) (blkOk_by (own := [("_law_at", 11), ("_law_offset", 7)]) (N := ["_law_period", "_law_offsets", "_law_skip", "_law_many", "_law_found", "_law_begin", "_law_row", "_law_offset", "_law_width", "_law_far", "_law_least_here", "_law_at"]) (sc := defScope s_least) (by decide +kernel)) (fun _ _ _ _ _ => pg_tup2 K 2 (by rfl) (by rfl) (pgs_cons (pg_name (i := 11) sc_least.nd rfl (Or.inl rfl)) (pgs_cons (pg_name (i := 7) sc_least.nd rfl (Or.inl rfl)) (pgs_nil)))) (fun _ _ _ _ _ => pts_one (pt_cmpR op_gt (pe_op op_modN (pe_callTy call_int1 (by rfl) T.n_int (by decide +kernel) (pa_cons (pe_op op_sub (pv 7) (pv 5)) (pa_nil))) (pv 0)) (pv 8) (nomark _))) (fun _ _ _ _ _ => pv 11)) (pa_nil))))))))), ?_⟩
    refine ⟨_, rfl, a, _, rfl, .inl (SqL.of ha), _, rfl, _, _, rfl, rfl, Nat.zero_le _, fun F hF => ⟨_, _, rfl, ?_⟩⟩
    have los : (os.map V.int).length = os.length := List.length_map ..
    rw [los]
    have s1 := same_new (o := .lst []) hF
    have hF1 : (upd H F (.lst [])) F = some (.lst []) := upd_same
    generalize upd H F (.lst []) = H1 at s1 hF1 ⊢
    refine tIf_bs (m := ((os.length : Nat) : Int) - k) (a := a) (os := os) rfl rfl (s1 _ _ ha) fun l0 bs G0 s0 hb hc => ?_
    have s01 := s1.trans s0
    have hF0 := s0 _ _ hF1
    have lb : bs.length ≤ 60 := by rcases hc with ⟨_, rfl⟩ | ⟨_, rfl⟩; decide; exact hl
    have kn : ((os.length : Nat) : Int) - k ≤ (os.length : Nat) := by omega
    refine ⟨l0, rfl, ⟨_, SqL.of hb⟩, for_list (K := K) (a := l0) (xs := bs.map V.int) (fun i σ G => ∃ (x5 x6 : Option V) (ts : List Addr) (qs : List (Int × Int)), σ = [some (.int p), some (.ref a), some (.int k), some (.int (((os.length : Nat) : Int) - k)), some (.ref F), x5, x6, Option.none, Option.none, Option.none, Option.none, Option.none] ∧ Same H G ∧ G l0 = some (.lst (bs.map V.int)) ∧ G F = some (.lst (ts.map V.ref)) ∧ PrsAt G ts qs ∧ qs.map (·.2) = bs.take i ∧ ∀ q ∈ qs, PairOk p os (((os.length : Nat) : Int) - k) q)
      ⟨_, _, [], [], rfl, s01, hb, hF0, ⟨rfl, fun i t q h => by simp at h⟩, rfl, fun q hq => absurd hq List.not_mem_nil⟩ (fun i σ G _ z => SqL.of (by obtain ⟨_, _, _, _, _, _, z, _⟩ := z; exact z)) ?_ ?_⟩
    · rintro i x σ G hx ⟨x5, x6, ts, qs, rfl, sG, hlG, hFG, hT, hq, hqs⟩
      rw [List.getElem?_map] at hx
      obtain ⟨c, hci, rfl⟩ := Option.map_eq_some_iff.mp hx
      have li := (List.getElem?_eq_some_iff.mp hci).1
      have haG := sG _ _ ha
      refine ⟨_, rfl, a, rfl, ⟨_, SqL.of haG⟩, fun D hD => lc_list (K := K) (a := a) (xs := os.map V.int) (fun j G2 => Same G G2 ∧ G2 D = some (.lst (((os.take j).map fun o => (o - c) % p).map V.int))) ⟨same_new hD, upd_same⟩ (fun j G2 _ z => SqL.of (z.1 _ _ haG)) ?_ ?_⟩
      · rintro j y G2 hy ⟨s2, hD2⟩
        rw [List.getElem?_map] at hy
        obtain ⟨o, ho, rfl⟩ := Option.map_eq_some_iff.mp hy
        have lj := (List.getElem?_eq_some_iff.mp ho).1
        refine ⟨rfl, _, rfl, _, rfl, _, _, rfl, rfl, .inl ⟨_, rfl, _, rfl, _, _, rfl, rfl, (by omega), _, hD2, ?_, same_up s2 hD, ?_⟩⟩
        · rw [List.length_map, List.length_map]
          exact Nat.lt_of_le_of_lt (List.length_take_le _ _) (Nat.lt_of_lt_of_le (show j < 61 by omega) (by decide))
        · have ef : (o - c).fmod p = (o - c) % p := Int.fmod_eq_emod_of_nonneg _ (by omega)
          rw [upd_same, List.take_add_one, ho]
          show some (HO.lst (_ ++ [V.int ((o - c).fmod p)])) = _
          rw [ef, List.map_append, List.map_append]
          rfl
      · rintro G2 ⟨s2, hD2⟩
        rw [los, List.take_length] at hD2
        refine ⟨D, _, rfl, SqL.of hD2, by rw [List.length_map]; omega, fun row r hperm hsort hr0 => ?_⟩
        have s3 := s2.trans (same_new (o := .lst (row.map V.int)) hr0)
        have hr3 : (upd G2 r (.lst (row.map V.int))) r = some (.lst (row.map V.int)) := upd_same
        generalize upd G2 r (.lst (row.map V.int)) = G3 at s3 hr3 ⊢
        have lr : row.length = os.length := by rw [hperm.length_eq, List.length_map]
        have hF3 := s3 _ _ hFG
        have lts : ts.length = i := by
          have := congrArg List.length hq
          rw [List.length_map, List.length_take] at this
          rw [hT.1]
          omega
        have fin : ∀ (f : Int) (e : Addr), G3 e = Option.none → PairOk p os (((os.length : Nat) : Int) - k) (f, c) → ∃ (x5 x6 : Option V) (ts' : List Addr) (qs' : List (Int × Int)), [some (.int p), some (.ref a), some (.int k), some (.int (((os.length : Nat) : Int) - k)), some (.ref F), some (.int c), some (.ref r), Option.none, Option.none, Option.none, Option.none, Option.none] = [some (.int p), some (.ref a), some (.int k), some (.int (((os.length : Nat) : Int) - k)), some (.ref F), x5, x6, Option.none, Option.none, Option.none, Option.none, Option.none] ∧ Same H (upd (upd G3 e (.tup [.int f, .int c])) F (.lst (ts.map V.ref ++ [.ref e]))) ∧ (upd (upd G3 e (.tup [.int f, .int c])) F (.lst (ts.map V.ref ++ [.ref e]))) l0 = some (.lst (bs.map V.int)) ∧ (upd (upd G3 e (.tup [.int f, .int c])) F (.lst (ts.map V.ref ++ [.ref e]))) F = some (.lst (ts'.map V.ref)) ∧ PrsAt (upd (upd G3 e (.tup [.int f, .int c])) F (.lst (ts.map V.ref ++ [.ref e]))) ts' qs' ∧ qs'.map (·.2) = bs.take (i + 1) ∧ ∀ q ∈ qs', PairOk p os (((os.length : Nat) : Int) - k) q := fun f e he ok => by
          have s4 := same_new (o := .tup [.int f, .int c]) he
          have hF4 := s4 _ _ hF3
          have nlF : l0 ≠ F := fun z => by
            rw [z, hFG] at hlG
            have hlG := Option.some.inj hlG
            injection hlG with h
            have h2 := congrArg List.length h
            rw [List.length_map, List.length_map, lts] at h2
            have h3 := congrArg List.head? h
            rcases Nat.eq_zero_or_pos i with z0 | z0
            · omega
            · cases ts with
              | nil => simp at lts; omega
              | cons t0 tr =>
                cases bs with
                | nil => simp at li
                | cons b0 br => simp at h3
          have neF : e ≠ F := fun z => by rw [z, hF3] at he; cases he
          refine ⟨_, _, ts ++ [e], qs ++ [(f, c)], rfl, same_up ((sG.trans s3).trans s4) hF, by rw [upd_ne nlF]; exact (s3.trans s4) _ _ hlG, by rw [upd_same, List.map_append]; rfl, ?_, ?_, ?_⟩
          · refine ((hT.same s3).same s4).snoc (fun b zs h => ?_) ?_
            · rw [upd_ne (fun z => by rw [z, hF4] at h; cases h)]
              exact h
            · rw [upd_ne neF]
              exact upd_same
          · rw [List.map_append, hq, List.take_add_one, hci]
            rfl
          · intro q h
            rcases List.mem_append.mp h with h | h
            · exact hqs q h
            · rw [List.mem_singleton.mp h]
              exact ok
        have lF : (ts.map V.ref).length < sizeLine := by rw [List.length_map, lts]; exact Nat.lt_of_lt_of_le (show i < 61 by omega) (by decide)
        refine ⟨_, rfl, .inl ⟨rfl, _, SqL.of hF3⟩, _, rfl, _, _, rfl, rfl, _, rfl, ?_⟩
        rcases hc with ⟨hm, hbs⟩ | ⟨hm, hbs⟩
        · refine if_false_of (decide_eq_false (by omega)) ?_
          have c0 : c = 0 := by
            rw [hbs] at hci
            match i, hci with
            | 0, h => cases h; rfl
          refine ⟨_, rfl, (by show 2 ≤ sizeLine; decide), fun e he => ?_⟩
          exact ⟨F, _, _, rfl, rfl, same_new he _ _ hF3, lF, fin 0 e he (.inr ⟨hm, by rw [c0]⟩)⟩
        · refine if_true_of (decide_eq_true hm) ?_
          obtain ⟨n, hn⟩ : ∃ n : Nat, ((os.length : Nat) : Int) - k = (n : Int) := ⟨(((os.length : Nat) : Int) - k).toNat, by omega⟩
          have n0 : 0 < n := by omega
          have nl : n - 1 < row.length := by omega
          obtain ⟨f, hf⟩ : ∃ f, row[n - 1]? = some f := ⟨_, List.getElem?_eq_getElem nl⟩
          have hat : atI (row.map V.int) (((os.length : Nat) : Int) - k - 1) = some (V.int f) := by
            rw [hn, show (n : Int) - 1 = ((n - 1 : Nat) : Int) by omega]
            exact atI_nat (by rw [List.getElem?_map, hf]; rfl)
          have fr := NM.far_row (by omega) hperm hsort n0 hf
          refine ⟨_, rfl, _, rfl, _, _, rfl, rfl, r, _, _, _, rfl, rfl, SqL.of hr3, hat, _, rfl, (by show 2 ≤ sizeLine; decide), fun e he => ?_⟩
          exact ⟨F, _, _, rfl, rfl, same_new he _ _ hF3, lF, fin f e he (.inl ⟨hm, by rw [hn]; exact fr⟩)⟩
    · rintro σ G ⟨x5, x6, ts, qs, rfl, sG, hlG, hFG, hT, hq, hqs⟩
      rw [List.length_map, List.take_length] at hq
      have lqs : qs.length = bs.length := by rw [← hq, List.length_map]
      refine ⟨_, rfl, F, rfl, ⟨_, SqL.of hFG⟩, fun D hD => lc_list (K := K) (a := F) (xs := ts.map V.ref) (fun j G2 => Same G G2 ∧ ∃ ts3 : List Addr, G2 D = some (.lst (ts3.map V.ref)) ∧ PrsAt G2 ts3 (qs.take j)) ⟨same_new hD, [], upd_same, ⟨rfl, fun i t q h => by simp at h⟩⟩ (fun j G2 _ z => SqL.of (z.1 _ _ hFG)) ?_ ?_⟩
      · rintro j y G2 hy ⟨s2, ts3, hD2, hT3⟩
        rw [List.getElem?_map] at hy
        obtain ⟨t, ht, rfl⟩ := Option.map_eq_some_iff.mp hy
        have lj : j < qs.length := by rw [← hT.1]; exact (List.getElem?_eq_some_iff.mp ht).1
        have eq := List.getElem?_eq_getElem lj
        have htt := s2 _ _ (hT.2 j t _ ht eq)
        refine ⟨t, _, rfl, SqT.of htt, rfl, _, _, rfl, _, _, rfl, rfl, ?_⟩
        refine ⟨rfl, _, rfl, .inl ⟨_, rfl, _, rfl, .inl ⟨_, rfl, (by show 2 ≤ sizeLine; decide), fun e he => ?_⟩⟩⟩
        have s3 := same_new (o := .tup [.int qs[j].1, .int qs[j].2]) he
        have hD3 := s3 _ _ hD2
        have neD : e ≠ D := fun z => by rw [z, hD2] at he; cases he
        refine ⟨_, hD3, ?_, same_up (s2.trans s3) hD, ts3 ++ [e], (by rw [upd_same, List.map_append]; rfl), ?_⟩
        · rw [List.length_map, hT3.1]
          exact Nat.lt_of_le_of_lt (List.length_take_le _ _) (Nat.lt_of_lt_of_le (show j < 61 by omega) (by decide))
        · rw [List.take_add_one, eq]
          refine (hT3.same s3).snoc (fun b zs h => ?_) ?_
          · rw [upd_ne (fun z => by rw [z, hD3] at h; cases h)]
            exact h
          · rw [upd_ne neD]
            exact upd_same
      · rintro G2 ⟨s2, ts3, hD2, hT3⟩
        rw [List.length_map, hT.1, List.take_length] at hT3
        let kf : V → Int × Int := fun x => match x with
          | .ref t => (match G2 t with | some (.tup [.int i, .int j]) => (i, j) | _ => (0, 0))
          | _ => (0, 0)
        have kfe : ∀ (t : Addr) (q : Int × Int), G2 t = some (.tup [.int q.1, .int q.2]) → kf (.ref t) = q := fun t q h => by
          show (match G2 t with | some (.tup [.int i, .int j]) => (i, j) | _ => (0, 0)) = q
          rw [h]
        have each : ∀ x ∈ ts3.map V.ref, ∃ (t : Addr) (q : Int × Int), x = .ref t ∧ q ∈ qs ∧ G2 t = some (.tup [.int q.1, .int q.2]) := fun x hx => by
          obtain ⟨t, ht, rfl⟩ := List.mem_map.mp hx
          obtain ⟨j, hj⟩ := List.getElem?_of_mem ht
          have lj : j < qs.length := by rw [← hT3.1]; exact (List.getElem?_eq_some_iff.mp hj).1
          exact ⟨t, qs[j], rfl, List.getElem_mem lj, hT3.2 j t _ hj (List.getElem?_eq_getElem lj)⟩
        have back : ∀ q ∈ qs, ∃ x ∈ ts3.map V.ref, kf x = q := fun q hq => by
          obtain ⟨j, hj⟩ := List.getElem?_of_mem hq
          have lj : j < ts3.length := by rw [hT3.1]; exact (List.getElem?_eq_some_iff.mp hj).1
          exact ⟨.ref ts3[j], List.mem_map.mpr ⟨_, List.getElem_mem lj, rfl⟩, kfe _ _ (hT3.2 j _ _ (List.getElem?_eq_getElem lj) hj)⟩
        refine ⟨D, _, kf, rfl, SqL.of hD2, fun x hx => ?_, fun ys L hsr hst hL => ?_⟩
        · obtain ⟨t, q, rfl, _, h⟩ := each x hx
          exact ⟨t, rfl, by rw [kfe t q h]; exact h⟩
        have sL := same_new (o := .lst ys) hL
        have lys : ys.length = qs.length := by rw [hst.perm.length_eq, List.length_map, hT3.1]
        have b1 : 0 < bs.length := by
          rcases hc with ⟨_, h⟩ | ⟨h1, h⟩
          · rw [h]; decide
          · rw [h]; omega
        obtain ⟨y0, rest, rfl⟩ : ∃ y0 rest, ys = y0 :: rest := by
          cases ys with
          | nil => simp at lys; omega
          | cons y r => exact ⟨y, r, rfl⟩
        obtain ⟨t0, q0, rfl, hq0, ht0⟩ := each y0 (hst.perm.mem_iff.mp List.mem_cons_self)
        have hmin : ∀ q ∈ qs, NM.lexLe q0.1 q0.2 q.1 q.2 := fun q hq => by
          obtain ⟨x, hx, rfl⟩ := back q hq
          unfold NM.lexLe
          rcases List.mem_cons.mp (hst.perm.mem_iff.mpr hx) with h | h
          · rw [h, kfe t0 q0 ht0]
            exact .inr ⟨rfl, Int.le_refl _⟩
          · have := SrtO.srtd_head hsr x h
            have := SrtO.lexB_no.mp this
            rw [kfe t0 q0 ht0] at this
            omega
        have ht1 := sL _ _ ht0
        refine ⟨L, _, _, _, rfl, rfl, SqL.of upd_same, (atI_nat (j := 0) rfl), ?_⟩
        refine ⟨t0, _, rfl, SqT.of ht1, rfl, _, _, rfl, _, _, rfl, rfl, ?_⟩
        have s3 := (sG.trans s2).trans sL
        have ha3 := s3 _ _ ha
        generalize upd G2 L (.lst (V.ref t0 :: rest)) = G3 at s3 ha3 ⊢
        refine ⟨_, rfl, _, rfl, _, rfl, a, _, rfl, SqL.of ha3, fun M hM => lc_enumL (K := K) (a := a) (xs := os.map V.int) (fun j G4 => Same G3 G4 ∧ G4 M = some (.lst ((leftI p q0.2 q0.1 os j).map fun i : Nat => V.int i))) ⟨same_new hM, upd_same⟩ (fun j G4 _ z => SqL.of (z.1 _ _ ha3)) ?_ ?_⟩
        · rintro j y G4 c hy ⟨s4, hM4⟩ hcn
          rw [List.getElem?_map] at hy
          obtain ⟨o, ho, rfl⟩ := Option.map_eq_some_iff.mp hy
          have lj := (List.getElem?_eq_some_iff.mp ho).1
          have sc := same_new (o := .tup [.int (j : Nat), .int o]) hcn
          have go : os.getD j 0 = o := by rw [List.getD_eq_getElem?_getD, ho]; rfl
          refine ⟨c, _, rfl, SqT.of upd_same, rfl, _, _, rfl, _, _, rfl, rfl, ?_⟩
          refine ⟨rfl, _, rfl, _, rfl, _, _, rfl, rfl, .inl ⟨_, rfl, _, rfl, _, _, rfl, rfl, (by omega), _, rfl, _, _, rfl, rfl, _, rfl, ?_⟩⟩
          have ec : decide (q0.1 < (o - q0.2).fmod p) = !NM.inSt p q0.2 q0.1 (os.getD j 0) := by
            unfold NM.inSt
            rw [go, Int.fmod_eq_emod_of_nonneg _ (by omega), ← decide_not, decide_eq_decide]
            omega
          have hMc := sc _ _ hM4
          refine ite2 (fun hc' => ?_) (fun hc' => ?_)
          · have hc' : (!NM.inSt p q0.2 q0.1 (os.getD j 0)) = true := ec.symm.trans hc'
            refine ⟨_, rfl, _, hMc, ?_, same_up (s4.trans sc) hM, ?_⟩
            · have : (leftI p q0.2 q0.1 os j).length ≤ (List.range j).length := List.length_filter_le _ _
              rw [List.length_map]
              rw [List.length_range] at this
              exact Nat.lt_of_lt_of_le (show _ < 61 by omega) (by decide)
            · unfold leftI
              rw [upd_same, filter_range, if_pos hc', List.map_append]
              rfl
          · have hc' : ¬ (!NM.inSt p q0.2 q0.1 (os.getD j 0)) = true := fun z => hc' (ec.trans z)
            refine ⟨s4.trans sc, ?_⟩
            unfold leftI at hMc ⊢
            rw [hMc, filter_range, if_neg hc', List.append_nil]
        · rintro G4 ⟨s4, hM4⟩
          rw [los] at hM4
          refine ⟨(by show 3 ≤ sizeLine; decide), fun t ht => ?_⟩
          have s5 := same_new (o := .tup [.int q0.2, .int q0.1, .ref M]) ht
          refine kk t M _ q0.2 q0.1 (s3.trans (s4.trans s5)) (fun w0 b0 hN => ?_) upd_same (s5 _ _ hM4)
          rcases hc with ⟨hm, hbs⟩ | ⟨hm, hbs⟩
          · rcases hqs q0 hq0 with ⟨h, _⟩ | ⟨_, e⟩
            · omega
            · rw [e]
              rcases hN with ⟨_, h1, h2⟩ | ⟨h, _⟩
              · exact ⟨h1.symm, h2.symm⟩
              · omega
          · refine least_ok (by omega) hos kn hm (hq.trans hbs) (fun q h => ?_) hq0 hmin hN
            rcases hqs q h with ⟨_, e⟩ | ⟨h, _⟩
            · exact e
            · omega

theorem offsN_mem {es : List (Int × List (Option Int))} {pl n : Nat} {p : Int} {q : Int × Int} (hn : n ≤ es.length) (h : q ∈ offsN es pl p n) : ∃ (i : Nat) (e : Int × List (Option Int)) (m : Int), q = ((i : Int), (m - e.1) % p) ∧ es[i]? = some e ∧ e.2.getD pl Option.none = some m := by
  unfold offsN at h
  obtain ⟨i, hi, hq⟩ := List.mem_flatMap.mp h
  have hi := List.mem_range.mp hi
  have e1 : es[i]? = some es[i] := List.getElem?_eq_getElem (by omega)
  have ed : es.getD i (0, []) = es[i] := by rw [List.getD_eq_getElem?_getD, e1]; rfl
  rw [ed] at hq
  unfold offP at hq
  split at hq
  · cases hq
  · rename_i m hm
    exact ⟨i, es[i], m, List.mem_singleton.mp hq, e1, hm⟩
theorem leftI_leftQ {p b w : Int} {qs : List (Int × Int)} : ∀ n : Nat, n ≤ qs.length → (leftI p b w (qs.map (·.2)) n).map (fun j => (qs.map (·.1)).getD j 0) = leftQ p b w (qs.take n)
  | 0, _ => rfl
  | n + 1, h => by
    have ih := leftI_leftQ (p := p) (b := b) (w := w) (qs := qs) n (by omega)
    have eq := List.getElem?_eq_getElem (show n < qs.length by omega)
    have e2 : (qs.map (·.2)).getD n 0 = qs[n].2 := by rw [List.getD_eq_getElem?_getD, List.getElem?_map, eq]; rfl
    have e1 : (qs.map (·.1)).getD n 0 = qs[n].1 := by rw [List.getD_eq_getElem?_getD, List.getElem?_map, eq]; rfl
    rw [leftQ_take eq, ← ih]
    unfold leftI
    rw [filter_range, List.map_append, e2]
    congr 1
    by_cases c : (!NM.inSt p b w qs[n].2) = true
    · rw [if_pos c, if_pos c, List.map_cons, e1]; rfl
    · rw [if_neg c, if_neg c]; rfl
def spDueP : Sp := fun vs H Q _ => ∃ (t a : Addr) (pl : Nat) (k p u v : Int) (b : Bool) (xs : List V) (es : List (Int × List (Option Int))), vs = [.ref t, .ref a, .int (pl : Nat), .int k] ∧ H t = some (.tup [.int p, .int u, .int v, .bl b]) ∧ H a = some (.lst xs) ∧ EntsAt H xs es ∧ es.length ≤ 60 ∧ 2 ≤ p ∧ 0 ≤ k ∧ (∀ e ∈ es, pl < e.2.length) ∧
  ∀ (r l : Addr) (H' : Hp) (b w : Int), Same H H' → (∀ w0 b0, NM.Narrow p ((offsN es pl p es.length).map (·.2)) ((((offsN es pl p es.length).length : Nat) : Int) - k) w0 b0 → w = w0 ∧ b = b0) → H' r = some (.tup [.int b, .int w, .ref l]) → H' l = some (.tup ((leftQ p b w (offsN es pl p es.length)).map V.int)) → Q (.ref r) H'
theorem ok_due (T : Txt K mg) : FnOk P w K mg base CX0 2 T.a_due T.fd_due ["_law_plain", "_law_entries_here", "_law_place", "_law_skip"] spDueP := by
  refine T.F_due.ok sc_due (fun vs H Q E h => ?_) (fun cdv A outer s H vs Q E hr h => ?_)
  · obtain ⟨t, a, pl, k, p, u, v, b, xs, es, rfl, _⟩ := h; rfl
  · obtain ⟨t, a, pl, k, p, u, v, b, xs, es, rfl, ht, ha, hE, le, p2, k0, hpl, kk⟩ := h
    refine ⟨_, pss_cons (ps_set (i := 4) sc_due.nd rfl (Or.inr rfl) (pe_lc (own := [("_law_at", 5), ("_law_entry", 6)]) rfl sc_due.nd (pi_enum (by rfl) T.n_enumerate (pa_cons (pv 1) pa_nil)) (blkOk_by (own := [("_law_at", 5), ("_law_entry", 6)]) (N := ["_law_plain", "_law_entries_here", "_law_place", "_law_skip", "_law_heard", "_law_at", "_law_entry", "_law_offsets", "_law_begin", "_law_width", "_law_left"]) (sc := defScope s_due) (by decide +kernel)) (fun _ _ _ _ _ => pg_tup2 K 2 (by rfl) (by rfl) (pgs_cons (pg_name (i := 5) sc_due.nd rfl (Or.inl rfl)) (pgs_cons (pg_name (i := 6) sc_due.nd rfl (Or.inl rfl)) (pgs_nil)))) (fun _ _ _ _ _ => pts_one (pt_cmpR op_notN (pe_ix (ix_two2 K (by rfl)) (pe_ix (ix_tup2 K (by rfl)) (pv 6) (pe_int) (fun _ _ => rfl)) (pv 2) (fun _ _ => rfl)) (pe_non) (nomark _))) (fun _ _ _ _ _ => pv 5)))
      (pss_cons (ps_setLc (i := 7) (own := [("_law_at", 5)]) (g := gName 5) (tt := tYes) rfl sc_due.nd rfl rfl (sw_true rfl rfl rfl (by decide +kernel)) (pi_list (pv 4)) (blkOk_by (own := [("_law_at", 5)]) (N := ["_law_plain", "_law_entries_here", "_law_place", "_law_skip", "_law_heard", "_law_at", "_law_entry", "_law_offsets", "_law_begin", "_law_width", "_law_left"]) (sc := defScope s_due) (by decide +kernel)) (fun _ _ _ _ _ => pg_name (i := 5) sc_due.nd rfl (Or.inl rfl)) (fun _ _ _ _ _ => pts_nil) (fun _ _ _ _ _ => pe_op op_modN (pe_callTy call_int1 (by rfl) T.n_int (by decide +kernel) (pa_cons (pe_op op_sub (pe_ix (ix_two2 K (by rfl)) (pe_ix (ix_tup2 K (by rfl)) (pe_ix (ix_list2 K (by rfl)) (pv 1) (pv 5) (fun _ _ => rfl)) (pe_int) (fun _ _ => rfl)) (pv 2) (fun _ _ => rfl)) (pe_ix (ix_tup2 K (by rfl)) (pe_ix (ix_list2 K (by rfl)) (pv 1) (pv 5) (fun _ _ => rfl)) (pe_int) (fun _ _ => rfl))) (pa_nil))) (pe_ix (ix_tup2 K (by rfl)) (pv 0) (pe_int) (fun _ _ => rfl))))
      (pss_cons (ps_asg (pe_call (ok_least T) (hr.mono (by decide)) rfl T.m_least T.F_least.kp (b_least T) .nil pass0 (pa_cons (pe_ix ix_tup (pv 0) (pe_int) (fun _ _ => rfl)) (pa_cons (pv 7) (pa_cons (pv 3) (pa_nil))))) (pg_tup rfl (pgs_cons (pg_name (i := 8) sc_due.nd rfl (Or.inl rfl)) (pgs_cons (pg_name (i := 9) sc_due.nd rfl (Or.inl rfl)) (pgs_cons (pg_name (i := 10) sc_due.nd rfl (Or.inl rfl)) (pgs_nil))))))
      (pss_one (ps_ret (pe_tup (pa_cons (pv 8) (pa_cons (pv 9) (pa_cons (pe_callTy call_tuple_of (by rfl) T.n_tuple (by decide +kernel) (pa_cons (pe_lc (own := [("_law_at", 5)]) (g := gName 5) (tt := tYes) rfl sc_due.nd (pi_list (pv 10)) (blkOk_by (own := [("_law_at", 5)]) (N := ["_law_plain", "_law_entries_here", "_law_place", "_law_skip", "_law_heard", "_law_at", "_law_entry", "_law_offsets", "_law_begin", "_law_width", "_law_left"]) (sc := defScope s_due) (by decide +kernel)) (fun _ _ _ _ _ => pg_name (i := 5) sc_due.nd rfl (Or.inl rfl)) (fun _ _ _ _ _ => pts_nil) (fun _ _ _ _ _ => pe_ix (ix_list2 K (by rfl)) (pv 4) (pv 5) (fun _ _ => rfl))) (pa_nil))) (pa_nil))))))))), ?_⟩
    have markOf : ∀ (G : Hp) (i : Nat) (y : V) (e : Int × List (Option Int)), Same H G → xs[i]? = some y → es[i]? = some e → ∃ (t c : Addr), y = .ref t ∧ G t = some (.tup [.int e.1, .ref c]) ∧ SeqA G c (e.2.map mV) ∧ atI (e.2.map mV) ((pl : Nat) : Int) = some (mV (e.2.getD pl Option.none)) := fun G i y e s hy he => by
      obtain ⟨t, e', rfl, he', hEn⟩ := hE.2 i y hy
      rw [he] at he'
      cases he'
      obtain ⟨c, h1, h2⟩ := hEn.same s
      have lp := hpl e (List.mem_of_getElem? he)
      refine ⟨t, c, rfl, h1, h2, atI_nat ?_⟩
      rw [List.getElem?_map, List.getD_eq_getElem?_getD, List.getElem?_eq_getElem lp]
      rfl
    refine ⟨_, rfl, a, xs, rfl, SqL.of ha, fun D hD => lc_enumL (K := K) (a := a) (xs := xs) (fun j G => Same H G ∧ G D = some (.lst (((offsN es pl p j).map (·.1)).map V.int))) ⟨same_new hD, upd_same⟩ (fun j G _ z => SqL.of (z.1 _ _ ha)) ?_ ?_⟩
    · rintro j y G c hy ⟨s1, hDG⟩ hcn
      obtain ⟨t0, e, rfl, he, _⟩ := hE.2 j y hy
      have sc := same_new (o := .tup [.int (j : Nat), .ref t0]) hcn
      obtain ⟨t1, c1, e1, h1, h2, hat⟩ := markOf _ j _ e (s1.trans sc) hy he
      cases e1
      have lj : j < es.length := (List.getElem?_eq_some_iff.mp he).1
      have hDc := sc _ _ hDG
      refine ⟨c, _, rfl, SqT.of upd_same, rfl, _, _, rfl, _, _, rfl, rfl, ?_⟩
      refine ⟨rfl, ?_⟩
      refine ⟨_, rfl, t0, _, _, _, rfl, rfl, SqT.of h1, rfl, _, rfl, ix_mv h2.two hat ⟨rfl, ?_⟩⟩
      rw [offsN_succ he]
      unfold offP
      generalize e.2.getD pl Option.none = m
      cases m with
      | none =>
        refine ⟨false, (by rw [show mV Option.none = V.non from rfl, decide_eq_true rfl]; rfl), iteF ⟨s1.trans sc, ?_⟩⟩
        rw [hDc, List.append_nil]
      | some z =>
        refine ⟨true, (by rw [show mV (some z) = V.int z from rfl, decide_eq_false (fun h => by cases h)]; rfl), iteT ?_⟩
        refine ⟨_, rfl, _, hDc, ?_, same_up (s1.trans sc) hD, ?_⟩
        · have := offsN_len (es := es) (pl := pl) (p := p) j (by omega)
          rw [List.length_map, List.length_map]
          exact Nat.lt_of_le_of_lt (show _ ≤ 60 by omega) (by decide)
        · rw [upd_same, List.map_append, List.map_append]
          rfl
    · rintro G ⟨s1, hDG⟩
      rw [hE.1] at hDG
      obtain ⟨qs, hqs⟩ : ∃ qs, offsN es pl p es.length = qs := ⟨_, rfl⟩
      have mem : ∀ q ∈ qs, ∃ (i : Nat) (e : Int × List (Option Int)) (m : Int), q = ((i : Int), (m - e.1) % p) ∧ es[i]? = some e ∧ e.2.getD pl Option.none = some m := fun q h => offsN_mem (Nat.le_refl _) (hqs ▸ h)
      have lq : qs.length ≤ 60 := by rw [← hqs]; exact Nat.le_trans (offsN_len _ (Nat.le_refl _)) le
      rw [hqs] at hDG kk
      refine ⟨_, rfl, D, rfl, ⟨_, SqL.of hDG⟩, fun M hM => lc_list (K := K) (a := D) (xs := (qs.map (·.1)).map V.int) (fun j G2 => Same G G2 ∧ G2 M = some (.lst (((qs.take j).map (·.2)).map V.int))) ⟨same_new hM, upd_same⟩ (fun j G2 _ z => SqL.of (z.1 _ _ hDG)) ?_ ?_⟩
      · rintro j y G2 hy ⟨s2, hM2⟩
        rw [List.getElem?_map, List.getElem?_map] at hy
        obtain ⟨i', hi', rfl⟩ := Option.map_eq_some_iff.mp hy
        obtain ⟨q, hq, rfl⟩ := Option.map_eq_some_iff.mp hi'
        have lj := (List.getElem?_eq_some_iff.mp hq).1
        obtain ⟨i, e, m, rfl, he, hm⟩ := mem q (List.mem_of_getElem? hq)
        have s02 := s1.trans s2
        obtain ⟨y0, hy0⟩ : ∃ y0, xs[i]? = some y0 := ⟨_, List.getElem?_eq_getElem (by rw [hE.1]; exact (List.getElem?_eq_some_iff.mp he).1)⟩
        obtain ⟨t1, c1, rfl, h1, h2, hat⟩ := markOf _ i _ e s02 hy0 he
        rw [hm] at hat
        have hatx : atI xs ((i : Nat) : Int) = some (.ref t1) := atI_nat hy0
        have ha2 := s02 _ _ ha
        have ht2 := s02 _ _ ht
        have ef : (m - e.1).fmod p = (m - e.1) % p := Int.fmod_eq_emod_of_nonneg _ (by omega)
        refine ⟨rfl, _, rfl, _, rfl, a, _, _, _, rfl, rfl, SqL.of ha2, hatx, t1, _, _, _, rfl, rfl, SqT.of h1, rfl, _, rfl, ix_mv h2.two hat ⟨_, rfl, _, rfl, a, _, _, _, rfl, rfl, SqL.of ha2, hatx, t1, _, _, _, rfl, rfl, SqT.of h1, rfl, _, _, rfl, rfl, .inl ⟨_, rfl, _, rfl, t, _, _, _, rfl, rfl, SqT.of ht2, rfl, _, _, rfl, rfl, (by omega), _, hM2, ?_, same_up s2 hM, ?_⟩⟩⟩
        · rw [List.length_map, List.length_map]
          exact Nat.lt_of_le_of_lt (List.length_take_le _ _) (Nat.lt_of_lt_of_le (show j < 61 by omega) (by decide))
        · rw [upd_same, List.take_add_one, hq]
          show some (HO.lst (_ ++ [V.int ((m - e.1).fmod p)])) = _
          rw [ef, List.map_append, List.map_append]
          rfl
      · rintro G2 ⟨s2, hM2⟩
        rw [List.length_map, List.length_map, List.take_length] at hM2
        have s02 := s1.trans s2
        have hD2 := s2 _ _ hDG
        have lo : (qs.map (·.2)).length = qs.length := List.length_map ..
        refine ⟨_, rfl, t, _, _, _, rfl, rfl, SqT.of (s02 _ _ ht), rfl, _, rfl, _, rfl, p, k, M, qs.map (·.2), rfl, hM2, by rw [lo]; exact lq, p2, k0, fun o ho => ?_, fun t3 l3 G3 b3 w3 s3 hN ht3 hl3 => ?_⟩
        · obtain ⟨q, hq, rfl⟩ := List.mem_map.mp ho
          obtain ⟨i, e, m, rfl, _, _⟩ := mem q hq
          exact ⟨Int.emod_nonneg _ (by omega), Int.emod_lt_of_pos _ (by omega)⟩
        · refine ⟨t3, _, rfl, SqT.of ht3, rfl, _, _, rfl, _, _, rfl, _, _, rfl, rfl, ?_⟩
          rw [lo] at hl3 hN
          obtain ⟨left, hleft⟩ : ∃ left, leftI p b3 w3 (qs.map (·.2)) qs.length = left := ⟨_, rfl⟩
          have lm : ∀ x ∈ left, x < qs.length := fun x hx => by
            rw [← hleft] at hx
            unfold leftI at hx
            exact List.mem_range.mp (List.mem_filter.mp hx).1
          have ll : left.length ≤ qs.length := by
            rw [← hleft]
            unfold leftI
            have := List.length_filter_le (fun x => !NM.inSt p b3 w3 ((qs.map (·.2)).getD x 0)) (List.range qs.length)
            rwa [List.length_range] at this
          have eL := leftI_leftQ (p := p) (b := b3) (w := w3) (qs := qs) qs.length (Nat.le_refl _)
          rw [hleft] at hl3 eL
          rw [List.take_length] at eL
          have hD3 := s3 _ _ hD2
          have s03 := s02.trans s3
          refine ⟨_, rfl, _, rfl, _, rfl, l3, rfl, ⟨_, SqL.of hl3⟩, fun N hN' => lc_list (K := K) (a := l3) (xs := left.map fun i : Nat => V.int i) (fun j G4 => Same G3 G4 ∧ G4 N = some (.lst (((left.take j).map fun x => (qs.map (·.1)).getD x 0).map V.int))) ⟨same_new hN', upd_same⟩ (fun j G4 _ z => SqL.of (z.1 _ _ hl3)) ?_ ?_⟩
          · rintro j y G4 hy ⟨s4, hN4⟩
            rw [List.getElem?_map] at hy
            obtain ⟨x, hx, rfl⟩ := Option.map_eq_some_iff.mp hy
            have lx := lm x (List.mem_of_getElem? hx)
            have lj := (List.getElem?_eq_some_iff.mp hx).1
            have hat : atI ((qs.map (·.1)).map V.int) ((x : Nat) : Int) = some (V.int ((qs.map (·.1)).getD x 0)) := atI_nat (by rw [List.getElem?_map, List.getD_eq_getElem?_getD, List.getElem?_map, List.getElem?_eq_getElem lx]; rfl)
            refine ⟨rfl, _, rfl, _, rfl, D, _, _, _, rfl, rfl, SqL.of (s4 _ _ hD3), hat, _, hN4, ?_, same_up s4 hN', ?_⟩
            · rw [List.length_map, List.length_map]
              exact Nat.lt_of_le_of_lt (List.length_take_le _ _) (Nat.lt_of_lt_of_le (show j < 61 by omega) (by decide))
            · rw [upd_same, List.take_add_one, hx, List.map_append, List.map_append]
              rfl
          · rintro G4 ⟨s4, hN4⟩
            rw [List.length_map, List.take_length, eL] at hN4
            refine ⟨N, _, rfl, .inl ⟨SqL.of hN4, fun lt hlt => ⟨(by show 3 ≤ sizeLine; decide), fun r hr => ?_⟩⟩⟩
            have s5 := same_new (o := .tup ((leftQ p b3 w3 qs).map V.int)) hlt
            have s6 := same_new (o := .tup [.int b3, .int w3, .ref lt]) hr
            exact kk r lt _ b3 w3 (s03.trans (s4.trans (s5.trans s6))) hN upd_same (s6 _ _ upd_same)

theorem shown_int120 {i : Int} (h : i.natAbs < 10 ^ 120) : (PyData.shown (.int i)).length ≤ 121 := by
  have e := int_text_length_le10 (k := 120) (by decide) h
  show (Str.ofString (toString i)).length ≤ 121
  rw [PySem.ofString_length]; exact e
theorem log_int120 {i : Int} (h : i.natAbs < 10 ^ 120) : i.natAbs.log2 < 399 := by
  by_cases n0 : i.natAbs = 0
  · rw [n0]; decide
  · exact (Nat.log2_lt n0).mpr (Nat.lt_of_lt_of_le h (by decide +kernel))
theorem weight_int120 {i : Int} (h : i.natAbs < 10 ^ 120) : (PyData.int i).weight ≤ 400 := by
  have l := log_int120 h
  simp only [PyData.weight]
  split <;> omega
/-- shown without harm -/
def Fine (n : Nat) (d : PyData) : Prop := d.showable = true ∧ d.leavesShort 121 = true ∧ d.weight ≤ n
theorem Fine.int {i : Int} (h : i.natAbs < 10 ^ 120) : Fine 400 (.int i) := by
  have l := log_int120 h
  refine ⟨?_, ?_, weight_int120 h⟩
  · simp only [PyData.showable, decide_eq_true_eq]; omega
  · simp only [PyData.leavesShort, decide_eq_true_eq]; exact shown_int120 h
def FineAll (n : Nat) (ds : List PyData) : Prop := PyData.showableAll ds = true ∧ PyData.leavesShortAll 121 ds = true ∧ PyData.weightAll ds ≤ n
theorem FineAll.nil : FineAll 0 [] := ⟨rfl, rfl, Nat.le_refl _⟩
theorem FineAll.cons {n m : Nat} {d : PyData} {ds : List PyData} (h : Fine n d) (g : FineAll m ds) : FineAll (n + 1 + m) (d :: ds) := by
  refine ⟨?_, ?_, ?_⟩
  · simp only [PyData.showableAll, h.1, g.1, Bool.and_self]
  · simp only [PyData.leavesShortAll, h.2.1, g.2.1, Bool.and_self]
  · have := h.2.2
    have := g.2.2
    simp only [PyData.weightAll]
    omega
theorem FineAll.tup {n : Nat} {ds : List PyData} (h : FineAll n ds) : Fine n (.tuple ds) :=
  ⟨by simp only [PyData.showable, h.1], by simp only [PyData.leavesShort, h.2.1], by simp only [PyData.weight]; exact h.2.2⟩
theorem Fine.mono {n m : Nat} {d : PyData} (l : n ≤ m) (h : Fine n d) : Fine m d := ⟨h.1, h.2.1, Nat.le_trans h.2.2 l⟩
theorem Fine.size {n : Nat} {d : PyData} (h : Fine n d) (l : n ≤ 10000) : d.shown.length ≤ sizeLine := by
  have z := PyData.shown_le 121 (by decide) d h.2.1
  have h2 : (121 + 2) * d.weight ≤ 123 * 10000 := Nat.mul_le_mul (by omega) (Nat.le_trans h.2.2 l)
  rw [sizeLine_eq]
  omega

def gkC (α : Type) : List α → List α → List α
  | [], [c, b, a] => [a, b, c]
  | _, _ => []
theorem kb_C {fd : FuncData} {p1 p2 p3 k1 k2 k3 : Str} (h : ∀ (a b c : Value) (s : Shared), BindsTo s fd ⟨[], [(k1, c), (k2, b), (k3, a)]⟩ [(p1, a), (p2, b), (p3, c)]) : KBinds K fd [p1, p2, p3] [k1, k2, k3] (gkC Value) (gkC V) := by
  refine ⟨fun s us ws _ hl => ?_, fun {vs us zs ws} r rz => ?_⟩
  · match us, ws, hl with
    | [], [c, b, a], _ => exact h a b c s
    | [], [], h => simp [gkC] at h
    | [], [_], h => simp [gkC] at h
    | [], [_, _], h => simp [gkC] at h
    | [], _ :: _ :: _ :: _ :: _, h => simp [gkC] at h
    | _ :: _, _, h => simp [gkC] at h
  · match vs, us, zs, ws, r, rz with
    | _, _, _, _, .nil, .nil => exact .nil
    | _, _, _, _, .nil, .cons _ .nil => exact .nil
    | _, _, _, _, .nil, .cons _ (.cons _ .nil) => exact .nil
    | _, _, _, _, .nil, .cons r1 (.cons r2 (.cons r3 .nil)) => exact .cons r3 (.cons r2 (.cons r1 .nil))
    | _, _, _, _, .nil, .cons _ (.cons _ (.cons _ (.cons _ _))) => exact .nil
    | _, _, _, _, .cons _ _, _ => exact .nil
theorem kb_plays (T : Txt K mg) : KBinds K T.fd_plays ["periods", "entries", "skip"] ["skip", "entries", "periods"] (gkC Value) (gkC V) := by
  obtain ⟨oc, od, kV, doc, pm, an, cdv, ct, osl, e, lk, hcd⟩ := T.F_plays.ex
  refine kb_C fun a b c s => ?_
  rw [e]; exact .of_eq rfl
theorem pi_tup2 {X : Cx} {tg l : Expr} {tl : TE} (K : PySem.W.Frag) (hK : X.K = K) (hl : PE X l tl) : PI X tg l (iTup K tl) := by subst hK; exact pi_tup hl
theorem pi_enumK {X : Cx} {e : Expr} {ta : TA} {p pos tpos : Pos} {elts : List Expr} {kk : Nat} (K : PySem.W.Frag) (hK : X.K = K) (hg : Gl X "enumerate") (hm : X.mg "enumerate" = Option.none) (ha : PA X [e] ta) (hs : starEach [e] X.env = [(false, eval e X.env)] := by rfl) : PI X (.Tuple elts kk tpos) (.Call (.Name "enumerate" p) [e] [] pos) (iEnum K ta) := by
  subst hK
  exact pi_enum hg hm ha hs
theorem call_isi2 {X : Cx} (K : PySem.W.Frag) (hK : X.K = K) : CallR X (.builtin "isinstance") (rIsi K) := by subst hK; exact call_isi
/-- two stretches that are alike -/
def StEq (C : Addr) (a b : Addr) (H : Hp) : Prop := ∃ (p w : Int) (is : List Int), StX C H a p w is ∧ StX C H b p w is
theorem stEq_mon {C : Addr} : ∀ (a b : Addr) (H H' : Hp), Ext H H' → StEq C a b H → StEq C a b H' := fun a b H H' e h => by
  obtain ⟨p, w, is, h1, h2⟩ := h
  exact ⟨p, w, is, h1.same e, h2.same e⟩
theorem ok_eqR (T : Txt K mg) : FnOk P w K mg base CX0 1 T.a_Stretch_eq T.fd_Stretch_eq ["self", "other"] (spEq (StEq T.a_Stretch)) := by
  refine (ok_Stretch_eq T).imp fun vs H Q E h => ?_
  obtain ⟨a, b, rfl, ⟨p, w', is, ⟨l1, h1, h2⟩, ⟨l2, h3, h4⟩⟩, q⟩ := h
  refine ⟨a, b, p, w', p, w', .ref l1, .ref l2, rfl, h1, h3, .inl ⟨l1, l2, is, is, rfl, rfl, SqT.of h2, SqT.of h4, ?_⟩⟩
  rw [decide_eq_true ⟨rfl, rfl, rfl⟩]
  exact q H fun _ _ z => z
theorem Fine.sizeB {n : Nat} {d : PyData} (h : Fine n d) (l : n ≤ 130000) : d.shown.length ≤ sizeLine := by
  have z := PyData.shown_le 121 (by decide) d h.2.1
  have h2 : (121 + 2) * d.weight ≤ 123 * 130000 := Nat.mul_le_mul (by omega) (Nat.le_trans h.2.2 l)
  rw [sizeLine_eq]
  omega
theorem FineAll.mono {n m : Nat} {ds : List PyData} (l : n ≤ m) (h : FineAll n ds) : FineAll m ds := ⟨h.1, h.2.1, Nat.le_trans h.2.2 l⟩
theorem FineAll.lst {n : Nat} {ds : List PyData} (h : FineAll n ds) : Fine n (.list ds) := ⟨by simp only [PyData.showable, h.1], by simp only [PyData.leavesShort, h.2.1], by simp only [PyData.weight]; exact h.2.2⟩
def mD : Option Int → PyData
  | .none => .none
  | .some x => .int x
theorem dp_marks {K : PySem.W.Frag} {H : Hp} : ∀ ms : List (Option Int), DpAll K H (ms.map mV) (ms.map mD)
  | [] => .nil
  | .none :: r => .cons .non (dp_marks r)
  | .some x :: r => .cons (.int x) (dp_marks r)
theorem fine_marks : ∀ ms : List (Option Int), (∀ x, some x ∈ ms → x.natAbs < 10 ^ 120) → FineAll (401 * ms.length) (ms.map mD)
  | [], _ => FineAll.nil
  | m :: r, h => by
    have f : Fine 400 (mD m) := by
      cases m with
      | none => exact ⟨rfl, rfl, Nat.zero_le _⟩
      | some x => exact Fine.int (h x List.mem_cons_self)
    have a := FineAll.cons f (fine_marks r fun x hx => h x (List.mem_cons_of_mem _ hx))
    exact ⟨a.1, a.2.1, Nat.le_trans a.2.2 (by rw [List.length_cons]; omega)⟩
theorem depth_marks : ∀ ms : List (Option Int), PyData.depthAll (ms.map mD) = 0
  | [] => rfl
  | m :: r => by
    have := depth_marks r
    cases m <;> simp [PyData.depthAll, PyData.depth, mD, this]
/-- a datum of the entries -/
theorem ents_data {K : PySem.W.Frag} {H : Hp} : ∀ (xs : List V) (es : List (Int × List (Option Int))), EntsAt H xs es → (∀ e ∈ es, e.1.natAbs < 10 ^ 120 ∧ e.2.length ≤ 8 ∧ ∀ x, some x ∈ e.2 → x.natAbs < 10 ^ 120) → ∃ ds, DpAll K H xs ds ∧ FineAll (4000 * es.length) ds ∧ PyData.depthAll ds ≤ 2
  | [], [], _, _ => ⟨[], .nil, FineAll.nil, Nat.zero_le _⟩
  | [], _ :: _, h, _ => by have := h.1; simp at this
  | _ :: _, [], h, _ => by have := h.1; simp at this
  | y :: xs, e :: es, h, g => by
    obtain ⟨t, e', rfl, he', a, h1, h2⟩ := h.2 0 y rfl
    cases he'
    obtain ⟨g1, g2, g3⟩ := g e List.mem_cons_self
    obtain ⟨ds, d1, d2, d3⟩ := ents_data xs es ⟨by have := h.1; simpa using this, fun i y q => h.2 (i + 1) y q⟩ fun e he => g e (List.mem_cons_of_mem _ he)
    have fm := fine_marks e.2 g3
    have dm := depth_marks e.2
    rcases h2 with h2 | h2
    · have f := (FineAll.cons (Fine.int g1) (FineAll.cons fm.lst FineAll.nil)).tup
      have c := FineAll.cons (f.mono (m := 3999) (by omega)) d2
      refine ⟨_, .cons (.tup (SqT.of h1) (.cons (.int _) (.cons (.lst (SqL.of h2) (dp_marks _)) .nil))) d1, ⟨c.1, c.2.1, Nat.le_trans c.2.2 (by rw [List.length_cons]; omega)⟩, ?_⟩
      simp only [PyData.depthAll, PyData.depth, dm]
      omega
    · have f := (FineAll.cons (Fine.int g1) (FineAll.cons fm.tup FineAll.nil)).tup
      have c := FineAll.cons (f.mono (m := 3999) (by omega)) d2
      refine ⟨_, .cons (.tup (SqT.of h1) (.cons (.int _) (.cons (.tup (SqT.of h2) (dp_marks _)) .nil))) d1, ⟨c.1, c.2.1, Nat.le_trans c.2.2 (by rw [List.length_cons]; omega)⟩, ?_⟩
      simp only [PyData.depthAll, PyData.depth, dm]
      omega
theorem for_enL {K : PySem.W.Frag} {a : Addr} {xs : List V} {g : TG} {tb : TS} {D : Ends} {σ : L2.St} {H0 H : Hp} (hS : SqL K H0 a xs) (Pv : Nat → L2.St → Hp → Prop) (h0 : Pv 0 σ H) (hl : ∀ i σ G, Pv i σ G → Same H0 G)
    (hs : ∀ i x σ G T, xs[i]? = some x → Pv i σ G → G T = Option.none → g (.ref T) σ (upd G T (.tup [.int (i : Nat), x])) fun σ2 H2 => tb { nx := Pv (i + 1), rt := D.rt, bk := D.nx, ct := Pv (i + 1) } σ2 H2) (hd : ∀ σ G, Pv xs.length σ G → D.nx σ G) :
    ∃ W : Nat → Nat → L2.St → Hp → Prop, (∃ m, W 0 m σ H) ∧ ∀ i m σ G, W i m σ G →
      ((Ite K a).stop i G ∧ D.nx σ G) ∨ ((Ite K a).go i G ∧ ∃ N : L2.St → Hp → Prop, (∀ σ' H', N σ' H' → ∃ m', m' < m ∧ W (i + 1) m' σ' H') ∧ ∀ x H', (Ite K a).yld i G x H' → g x σ H' fun σ2 H2 => tb { nx := N, rt := D.rt, bk := D.nx, ct := N } σ2 H2) := by
  refine ⟨fun i m σ G => m = xs.length - i ∧ i ≤ xs.length ∧ Pv i σ G, ⟨xs.length, by simp, Nat.zero_le _, h0⟩, ?_⟩
  rintro i m σ G ⟨rfl, hi, p⟩
  have q := sqL_same (hl i σ G p) hS
  by_cases hlt : i < xs.length
  · refine .inr ⟨⟨xs, xs[i], q, by simp [hlt]⟩, Pv (i + 1), fun σ' H' p' => ⟨xs.length - (i + 1), by omega, rfl, hlt, p'⟩, fun x H' y => ?_⟩
    obtain ⟨T, z, rfl, hT, rfl, hz⟩ := y
    exact hs i z σ G T (hz xs q) p hT
  · have e : i = xs.length := by omega
    subst e
    exact .inl ⟨⟨xs, q, Nat.le_refl _⟩, hd σ G p⟩
theorem Fine.ints : ∀ {l : List Int}, (∀ i ∈ l, i.natAbs < 10 ^ 120) → FineAll (401 * l.length) (l.map PyData.int)
  | [], _ => FineAll.nil
  | a :: r, h => by
    have z := FineAll.cons (Fine.int (h a (List.mem_cons_self ..))) (Fine.ints fun i hi => h i (List.mem_cons_of_mem _ hi))
    exact ⟨z.1, z.2.1, Nat.le_trans z.2.2 (by rw [List.length_cons]; omega)⟩
/-- what a Stretch is, shown -/
theorem depth_intsQ : ∀ is : List Int, PyData.depthAll (is.map PyData.int) = 0
  | [] => rfl
  | _ :: r => by simp [PyData.depthAll, PyData.depth, depth_intsQ r]
def stQ (b w : Int) (is : List Int) : PyData := .tuple [.int b, .int w, .tuple (is.map PyData.int)]
theorem fine_stQ {b w : Int} {is : List Int} (hb : b.natAbs < 10 ^ 120) (hw : w.natAbs < 10 ^ 120) (hl : is.length ≤ 60) (hi : ∀ i ∈ is, i.natAbs < 10 ^ 120) : (stQ b w is).showable = true ∧ (stQ b w is).depth ≤ 60 ∧ (stQ b w is).shown.length ≤ sizeLine := by
  have f := (FineAll.cons (Fine.int hb) (FineAll.cons (Fine.int hw) (FineAll.cons (Fine.ints hi).tup FineAll.nil))).tup
  refine ⟨f.1, ?_, f.sizeB (by omega)⟩
  simp only [stQ, PyData.depth, PyData.depthAll, depth_intsQ]
  omega
theorem dp_stQ {K : PySem.W.Frag} {H : Hp} {t lt : Addr} {b w : Int} {is : List Int} (ht : SqT K H t [.int b, .int w, .ref lt]) (hl : SqT K H lt (is.map V.int)) : Dp K H (.ref t) (stQ b w is) := .tup ht (.cons (.int _) (.cons (.int _) (.cons (.tup hl (dp_ints is)) .nil)))
theorem leftQ_mem {p b w x : Int} {qs : List (Int × Int)} (h : x ∈ leftQ p b w qs) : ∃ q ∈ qs, q.1 = x := by
  unfold leftQ at h
  obtain ⟨q, hq, rfl⟩ := List.mem_map.mp h
  exact ⟨q, (List.mem_filter.mp hq).1, rfl⟩
theorem play_small {es : List (Int × List (Option Int))} {k p b w : Int} {i : Nat} {is : List Int} (h : PlayOf es k i p b w is) (p2 : 2 ≤ p) (p3 : p ≤ 1000000000000) (k0 : 0 ≤ k) (le : es.length ≤ 60) : b.natAbs < 10 ^ 120 ∧ w.natAbs < 10 ^ 120 ∧ is.length ≤ 60 ∧ ∀ x ∈ is, x.natAbs < 10 ^ 120 := by
  obtain ⟨hN, rfl⟩ := h
  have g120 : 1000000000000 < 10 ^ 120 := by decide +kernel
  have lo : ((offsN es i p es.length).map (·.2)).length = (offsN es i p es.length).length := List.length_map ..
  have L := hN.least (by omega) (fun o ho => by
    obtain ⟨q, hq, rfl⟩ := List.mem_map.mp ho
    obtain ⟨i, e, m, rfl, _, _⟩ := offsN_mem (Nat.le_refl _) hq
    exact ⟨Int.emod_nonneg _ (by omega), Int.emod_lt_of_pos _ (by omega)⟩) (by rw [lo]; omega)
  obtain ⟨a1, a2, a3, a4, _⟩ := L
  refine ⟨by omega, by omega, Nat.le_trans leftQ_len (Nat.le_trans (offsN_len _ (Nat.le_refl _)) le), fun x hx => ?_⟩
  obtain ⟨q, hq, rfl⟩ := leftQ_mem hx
  obtain ⟨j, e, m, rfl, he, _⟩ := offsN_mem (Nat.le_refl _) hq
  have := (List.getElem?_eq_some_iff.mp he).1
  show ((j : Int)).natAbs < 10 ^ 120
  omega
theorem play_uniq {es : List (Int × List (Option Int))} {k p b w b' w' : Int} {i : Nat} {is is' : List Int} (h : PlayOf es k i p b w is) (g : PlayOf es k i p b' w' is') (p2 : 2 ≤ p) (k0 : 0 ≤ k) : b = b' ∧ w = w' ∧ is = is' := by
  obtain ⟨hN, rfl⟩ := h
  obtain ⟨gN, rfl⟩ := g
  have lo : ((offsN es i p es.length).map (·.2)).length = (offsN es i p es.length).length := List.length_map ..
  have hr : ∀ o ∈ (offsN es i p es.length).map (·.2), 0 ≤ o ∧ o < p := fun o ho => by
    obtain ⟨q, hq, rfl⟩ := List.mem_map.mp ho
    obtain ⟨i, e, m, rfl, _, _⟩ := offsN_mem (Nat.le_refl _) hq
    exact ⟨Int.emod_nonneg _ (by omega), Int.emod_lt_of_pos _ (by omega)⟩
  obtain ⟨rfl, rfl⟩ := (hN.least (by omega) hr (by rw [lo]; omega)).uniq (gN.least (by omega) hr (by rw [lo]; omega))
  exact ⟨rfl, rfl, rfl⟩
theorem sts_eq {C : Addr} {H : Hp} {xs ys : List V} {es : List (Int × List (Option Int))} {k : Int} {ps : List Int} (h : StsV C H xs es k ps ps.length) (g : StsV C H ys es k ps ps.length) (hp : ∀ p ∈ ps, 2 ≤ p ∧ p ≤ 1000000000000) (k0 : 0 ≤ k) : Prs (DIns C (StEq C)) xs ys H := ⟨by rw [h.1, g.1], fun i x y h1 h2 => by
  obtain ⟨a, p, b, w, is, rfl, e1, hx, q1⟩ := h.2 i x h1
  obtain ⟨a', p', b', w', is', rfl, e2, hy, q2⟩ := g.2 i y h2
  rw [e1] at e2
  cases e2
  obtain ⟨rfl, rfl, rfl⟩ := play_uniq q1 q2 (hp p (List.mem_of_getElem? e1)).1 k0
  obtain ⟨l1, ⟨dx, f1⟩, f2⟩ := id hx
  obtain ⟨l2, ⟨dy, f3⟩, f4⟩ := id hy
  exact ⟨a, a', dx, dy, _, _, rfl, rfl, f1, f3, b, w, is, hx, hy⟩⟩

def spRight : Sp := fun vs H Q _ => ∃ (p : Addr) (n : Nat), vs = [.ref p] ∧ Pen H p n ∧ n < 60000 ∧ ∀ H', Pen H' p (n + 400) → Fr p H H' → Q (.bl true) H'
theorem ok_right (T : Txt K mg) : FnG P w K mg base CX0 7 T.a_right spRight := by
  refine FnG.mk0 T.F_right sc_right (b_right T) (fun vs H Q E h => ?_) (fun cdv A outer s H vs Q E gu hr h => ?_)
  · obtain ⟨p, n, rfl, _⟩ := h; rfl
  · obtain ⟨pn, n, rfl, hP, hn, k⟩ := h
    refine ⟨_, pss_cons (ps_par (i := 1) (j := 2) (by rfl) sc_right.nd rfl rfl (by decide) rfl rfl (pa_cons (pe_call (ok_wheels T) (hr.mono (by decide)) rfl T.m_wheels T.F_wheels.kp (b_wheels T) .nil pass0 (pa_cons (pv 0) (pa_cons (pe_int) (pa_nil)))) (pa_cons (pe_call (ok_pick T) (hr.mono (by decide)) rfl T.m_pick T.F_pick.kp (b_pick T) .nil pass0 (pa_cons (pv 0) (pa_cons (pe_lst (pa_cons (pe_int) (pa_cons (pe_int) (pa_cons (pe_int) (pa_cons (pe_int) (pa_cons (pe_int) (pa_nil))))))) (pa_nil)))) (pa_nil))) (by rfl))
      (pss_cons (ps_set (i := 3) sc_right.nd rfl (Or.inl rfl) (pe_call (ok_entries T) (hr.mono (by decide)) rfl T.m_entries T.F_entries.kp (b_entries T) .nil pass0 (pa_cons (pv 0) (pa_cons (pv 1) (pa_cons (pe_int) (pa_nil))))))
      (pss_cons (ps_par (i := 4) (j := 5) (by rfl) sc_right.nd rfl rfl (by decide) rfl rfl (pa_cons (pe_callB (call_rep gu hr.units) (by rfl) T.n_repr (by decide +kernel) (pa_cons (pv 3) (pa_nil))) (pa_cons (pe_lc (own := [("_law_plain", 6)]) (g := gName 6) (tt := tYes) rfl sc_right.nd (pi_list (pv 1)) (blkOk_by (own := [("_law_plain", 6)]) (N := ["_law_pen_here", "_law_plains", "_law_skip", "_law_entries_here", "_law_held", "_law_periods", "_law_plain", "_law_told", "_law_one", "_law_place"]) (sc := defScope s_right) (by decide +kernel)) (fun _ _ _ _ _ => pg_name (i := 6) sc_right.nd rfl (Or.inl rfl)) (fun _ _ _ _ _ => pts_nil) (fun _ _ _ _ _ => pe_ix (ix_tup2 K (by rfl)) (pv 6) (pe_int) (fun _ _ => rfl))) (pa_nil))) (by rfl))
      (pss_cons (ps_set (i := 7) sc_right.nd rfl (Or.inl rfl) (pe_call (ok_plays T) (hr.mono (by decide)) rfl T.m_plays T.F_plays.kp (b_plays T) .nil pass0 (pa_cons (pv 5) (pa_cons (pv 3) (pa_cons (pv 2) (pa_nil))))))
      (pss_cons (ps_if (PW.pt (pw_or (pt_not (pt_val (pe_callB call_isi (by rfl) T.n_isinstance (by decide +kernel) (pa_cons (pv 7) (pa_cons (pe_bltn (v := .ty "tuple") (u := .type "tuple") (by rfl) T.n_tuple (by decide +kernel) rfl) (pa_nil)))))) (pw_or (pt_cmpR op_ne (pe_callB call_len_seq (by rfl) T.n_len (by decide +kernel) (pa_cons (pv 7) (pa_nil))) (pe_callB call_len_seq (by rfl) T.n_len (by decide +kernel) (pa_cons (pv 1) (pa_nil))) (nomark _)) (pw_or1 (pt_cmpR (op_neD hr.units) (pe_lc (own := [("_law_one", 8)]) (g := gName 8) rfl sc_right.nd (pi_tup (pv 7)) (blkOk_by (own := [("_law_one", 8)]) (N := ["_law_pen_here", "_law_plains", "_law_skip", "_law_entries_here", "_law_held", "_law_periods", "_law_plain", "_law_told", "_law_one", "_law_place"]) (sc := defScope s_right) (by decide +kernel)) (fun _ _ _ _ _ => pg_name (i := 8) sc_right.nd rfl (Or.inl rfl)) (fun _ _ _ _ _ => pts_one (pt_not (pt_val (pe_callB (call_isi2 K (by rfl)) (by rfl) T.n_isinstance (by decide +kernel) (pa_cons (pv 8) (pa_cons (pe_glob (v := .ref T.a_Stretch) rfl T.m_Stretch rfl) (pa_nil))))))) (fun _ _ _ _ _ => pv 8)) (pe_lst (pa_nil)) (nomark _)))))) (pss_one (ps_ret (pe_bl))) (pss_nil))
      (pss_cons (ps_for PassesOwn.never rfl (pi_enum (by rfl) T.n_enumerate (pa_cons (pv 1) pa_nil)) (pg_tup rfl (pgs_cons (pg_name (i := 9) sc_right.nd rfl (Or.inl rfl)) (pgs_cons (pg_name (i := 6) sc_right.nd rfl (Or.inl rfl)) (pgs_nil)))) (pss_one (ps_if (pt_cmpR op_ne (pe_callB (call_rep gu hr.units) (by rfl) T.n_repr (by decide +kernel) (pa_cons (pe_tup (pa_cons (pe_fld (pe_ix ix_tup (pv 7) (pv 9) (fun _ _ => rfl)) rfl) (pa_cons (pe_fld (pe_ix ix_tup (pv 7) (pv 9) (fun _ _ => rfl)) rfl) (pa_cons (pe_fld (pe_ix ix_tup (pv 7) (pv 9) (fun _ _ => rfl)) rfl) (pa_nil))))) (pa_nil))) (pe_callB (call_rep gu hr.units) (by rfl) T.n_repr (by decide +kernel) (pa_cons (pe_call (ok_due T) (hr.mono (by decide)) rfl T.m_due T.F_due.kp (b_due T) .nil pass0 (pa_cons (pv 6) (pa_cons (pv 3) (pa_cons (pv 9) (pa_cons (pv 2) (pa_nil)))))) (pa_nil))) (nomark _)) (pss_one (ps_ret (pe_bl))) (pss_nil))))
      (pss_one (ps_ret (pe_and (pe_cmpR (op_eqG (rcG_tup (mon_ins (stEq_mon (C := T.a_Stretch))) (eqG_ins (ok_eqR T) T.fi_eq T.fn_eq (b_Stretch_eq T) pass0)) (hr.mono (by decide))) (pe_callK0 (ok_plays T) (hr.mono (by decide)) rfl T.m_plays T.F_plays.kp (kb_plays T) pass0 (pk_cons (pv 2) (pk_cons (pe_callTy call_tuple_of (by rfl) T.n_tuple (by decide +kernel) (pa_cons (pv 3) (pa_nil))) (pk_cons (pe_callTy call_tuple_of (by rfl) T.n_tuple (by decide +kernel) (pa_cons (pv 5) (pa_nil))) (pk_nil))))) (pv 7) (nomark _)) (pe_one (pe_cmpR op_eq (pe_callB (call_rep gu hr.units) (by rfl) T.n_repr (by decide +kernel) (pa_cons (pv 3) (pa_nil))) (pv 4) (nomark _))))))))))), ?_⟩
    refine ⟨_, rfl, pn, 3, n, rfl, by decide, by decide, hP, by omega, fun wl H1 ws ps hw nw hWs l1 l3 hps hP1 f1 => ?_⟩
    refine ⟨_, rfl, (by show 5 ≤ sizeLine; decide), fun L hL => ?_⟩
    have sL := same_new (o := .lst [.int 0, .int 0, .int 1, .int 2, .int 3]) hL
    refine tNil_to ⟨pn, L, _, n + 60, rfl, SqL.of upd_same, hP1.neq hL, (by show 0 < 5; decide), (by show 5 < 1000000; decide), hP1.same sL, by omega, fun x H2 hx hP2 f2 => ?_⟩
    obtain ⟨kk, rfl, k0, k3⟩ : ∃ kk : Int, x = V.int kk ∧ 0 ≤ kk ∧ kk ≤ 3 := by
      simp only [List.mem_cons, List.not_mem_nil, or_false] at hx
      rcases hx with rfl | rfl | rfl | rfl | rfl <;> exact ⟨_, rfl, by decide, by decide⟩
    obtain ⟨yp, hyp⟩ := hP.lst
    have nwp : wl ≠ pn := fun z => by rw [z, hyp] at nw; cases nw
    have F12 := (same_fr sL).trans f2
    have F2 := f1.trans F12
    have hw2 := F12.keep _ _ nwp hw
    have hWs2 := hWs.but (F12.tup hP1.lst)
    refine tNil_to ⟨_, _, rfl, ?_⟩
    refine ⟨_, rfl, _, rfl, pn, wl, ws, ps, n + 61, rfl, hw2, nwp, hWs2, by omega, hps, hP2, by omega, fun el H3 xs es hel nel hE hle ok hP3 f3 => ?_⟩
    have F3 := F2.trans f3
    have hE := hE.same hide2_sub
    have hw3 := f3.keep _ _ nwp hw2
    have hWs3 := hWs2.but (f3.tup hP2.lst)
    have lws : ws.length = ps.length := hWs.1
    have e120 : BIG < 10 ^ 120 := by decide +kernel
    have g120 : (1000000000000 : Int) < 10 ^ 120 := by decide +kernel
    obtain ⟨dsE, dE, fE, pE⟩ := ents_data xs es hE fun e he => by
      have o := ok e he
      refine ⟨by have := o.lo; have := o.hi; omega, by rw [o.l]; omega, fun x hx => ?_⟩
      obtain ⟨i, hi⟩ := List.getElem?_of_mem hx
      obtain ⟨q, hq⟩ : ∃ q, ps[i]? = some q := ⟨_, List.getElem?_eq_getElem (by rw [← o.l]; exact (List.getElem?_eq_some_iff.mp hi).1)⟩
      have := o.m i x q hi hq
      have := hps q (List.mem_of_getElem? hq)
      omega
    have showE : (PyData.list dsE).showable = true ∧ (PyData.list dsE).depth ≤ 60 ∧ (PyData.list dsE).shown.length ≤ sizeLine := by
      refine ⟨fE.lst.1, ?_, fE.lst.sizeB (by omega)⟩
      simp only [PyData.depth]
      omega
    refine ⟨_, rfl, _, _, rfl, .dp (.lst (SqL.of hel) dE), showE.1, showE.2.1, .inr showE.2.2, ?_⟩
    refine ⟨_, rfl, wl, rfl, ⟨_, SqL.of hw3⟩, fun D hD => lc_list (K := K) (a := wl) (xs := ws) (fun j G => Same H3 G ∧ G D = some (.lst ((ps.take j).map V.int))) ⟨same_new hD, upd_same⟩ (fun j G _ z => SqL.of (z.1 _ _ hw3)) ?_ ?_⟩
    · rintro j y G hy ⟨s4, hDG⟩
      obtain ⟨t, q, u, v, b, rfl, hq, ht⟩ := hWs3.2 j y hy
      refine ⟨rfl, _, rfl, t, _, _, _, rfl, rfl, SqT.of (s4 _ _ ht), rfl, _, hDG, ?_, same_up s4 hD, ?_⟩
      · rw [List.length_map]
        exact Nat.lt_of_le_of_lt (List.length_take_le _ _) (Nat.lt_of_lt_of_le (show j < 9 by have := (List.getElem?_eq_some_iff.mp hq).1; omega) (by decide))
      · rw [upd_same, List.take_add_one, hq, List.map_append]
        rfl
    · rintro G ⟨s4, hDG⟩
      rw [lws, List.take_length] at hDG
      refine tNil_to ⟨_, _, rfl, ?_⟩
      have hel4 := s4 _ _ hel
      have hE4 := hE.same s4
      have hw4 := s4 _ _ hw3
      have hWs4 := hWs3.but fun t zs h => s4 _ _ h
      have dE4 := dp_same s4 _ _ (show Dp K H3 (.ref el) (.list dsE) from .lst (SqL.of hel) dE)
      have hP4 := hP3.same s4
      have F4 := F3.trans (same_fr s4)
      clear s4 hWs3 hw3 hP3 F3 hE hel dE fE
      refine ⟨_, rfl, _, rfl, _, rfl, el, D, kk, ps, xs, es, rfl, .inl hDG, l1, by omega, hps, .inl hel4, hE4, by omega, ok, k0, fun t H5 sts s5 ht hSt => ?_⟩
      obtain ⟨txt, htx⟩ : ∃ txt, (PyData.list dsE).shown = txt := ⟨_, rfl⟩
      rw [htx]
      have hel5 := s5 _ _ hel4
      have hE5 := hE4.same s5
      have hw5 := s5 _ _ hw4
      have hWs5 := hWs4.but fun t zs h => s5 _ _ h
      have dE5 := dp_same s5 _ _ dE4
      have hD5 := s5 _ _ hDG
      have hP5 := hP4.same s5
      have F5 := F4.trans (same_fr s5)
      have lsts : sts.length = ps.length := hSt.1
      refine ⟨_, rfl, .ref t, .ty "tuple", .type "tuple", .type "tuple", true, rfl, (by constructor), .base (.tup ht), (kit_ty (by decide +kernel)), true, rfl, iteF ?_⟩
      refine ⟨_, rfl, t, _, rfl, .inr (SqT.of ht), _, rfl, wl, _, rfl, .inl (SqL.of hw5), rfl, false, (by rw [lsts, lws, decide_eq_true rfl]; rfl), iteF ?_⟩
      refine ⟨_, rfl, t, rfl, ⟨_, SqT.of ht⟩, fun M hM => lc_tup (K := K) (a := t) (xs := sts) (fun j G => Same H5 G ∧ G M = some (.lst [])) ⟨same_new hM, upd_same⟩ (fun j G _ z => SqT.of (z.1 _ _ ht)) ?_ ?_⟩
      · rintro j y G hy ⟨s6, hMG⟩
        obtain ⟨x, p, b, w', is, rfl, _, ⟨lt, ⟨dx, hx⟩, hlt⟩, _⟩ := hSt.2 j y hy
        refine ⟨rfl, _, rfl, .ref x, .ref T.a_Stretch, .ref T.a_Stretch, .ref T.a_Stretch, true, rfl, (by constructor), T.ki _ x dx _ (s6 _ _ hx), T.kk, true, rfl, iteF ⟨s6, hMG⟩⟩
      · rintro H6 ⟨s6, hM6⟩
        refine ⟨Nat.zero_le _, fun l hl => ?_⟩
        have s7 := s6.trans (same_new (o := .lst []) hl)
        refine ⟨.list [], .list [], .lst (SqL.of (same_new hl _ _ hM6)) .nil, .lst (SqL.of upd_same) .nil, by decide +kernel, by decide +kernel, false, by decide +kernel, iteF ?_⟩
        generalize upd H6 l (.lst []) = H7 at s7 ⊢
        clear hM6 s6
        refine ⟨_, rfl, wl, ws, rfl, SqL.of (s7 _ _ hw5), for_enL (K := K) (H0 := H5) (a := wl) (xs := ws) (SqL.of hw5) (fun i σ G => Same H5 G ∧ ∃ x6 x9 : Option V, σ = [some (.ref pn), some (.ref wl), some (.int kk), some (.ref el), some (.str txt), some (.ref D), x6, some (.ref t), Option.none, x9]) ⟨s7, _, _, rfl⟩ (fun i σ G z => z.1) ?_ ?_⟩
        · rintro i y σ G c hy ⟨s8, x6, x9, rfl⟩ hc
          have sc := s8.trans (same_new (o := .tup [.int (i : Nat), y]) hc)
          obtain ⟨tw, p, u, v, b, rfl, hp, htw⟩ := hWs5.2 i y hy
          refine ⟨c, _, rfl, SqT.of upd_same, rfl, _, _, rfl, _, _, rfl, rfl, ?_⟩
          generalize upd G c (.tup [.int (i : Nat), .ref tw]) = G1 at sc ⊢
          have li := (List.getElem?_eq_some_iff.mp hp).1
          obtain ⟨p2, p3⟩ := hps p (List.mem_of_getElem? hp)
          obtain ⟨z, hz⟩ : ∃ z, sts[i]? = some z := ⟨_, List.getElem?_eq_getElem (by omega)⟩
          obtain ⟨x, p', b', w', is, rfl, hp', hx, hN, his⟩ := hSt.2 i z hz
          rw [hp] at hp'
          cases hp'
          obtain ⟨lt, ⟨dx, hx1⟩, hlt⟩ := hx.same sc
          have htG := sc _ _ ht
          have hat : atI sts ((i : Nat) : Int) = some (.ref x) := atI_nat hz
          refine ⟨_, rfl, _, rfl, t, _, _, _, rfl, rfl, SqT.of htG, hat, x, T.a_Stretch, dx, _, _, rfl, hx1, T.cls, T.na _ (by simp), rfl, ?_⟩
          refine ⟨_, rfl, _, rfl, t, _, _, _, rfl, rfl, SqT.of htG, hat, x, T.a_Stretch, dx, _, _, rfl, hx1, T.cls, T.na _ (by simp), rfl, ?_⟩
          refine ⟨_, rfl, _, rfl, t, _, _, _, rfl, rfl, SqT.of htG, hat, x, T.a_Stretch, dx, _, _, rfl, hx1, T.cls, T.na _ (by simp), rfl, (by show 3 ≤ sizeLine; decide), fun e he => ?_⟩
          have se := same_new (o := .tup [.int b', .int w', .ref lt]) he
          have sme := play_small ⟨hN, his⟩ p2 p3 k0 (by omega)
          have fq := fine_stQ sme.1 sme.2.1 sme.2.2.1 sme.2.2.2
          have s9 := sc.trans se
          refine tNil_to ⟨_, stQ b' w' is, rfl, .dp (dp_stQ (SqT.of upd_same) (SqT.of (se _ _ hlt))), fq.1, fq.2.1, .inr fq.2.2, ?_⟩
          refine ⟨_, rfl, _, rfl, _, rfl, _, rfl, tw, el, i, kk, p, u, v, b, xs, es, rfl, s9 _ _ htw, s9 _ _ hel5, hE5.same s9, by omega, p2, k0, fun e he => by rw [(ok e he).l]; exact li, fun r l G2 b2 w2 s10 hun hr hl2 => ?_⟩
          obtain ⟨rfl, rfl⟩ := hun _ _ hN
          refine tNil_to ⟨_, stQ b2 w2 is, rfl, .dp (dp_stQ (SqT.of hr) (SqT.of (by rw [his]; exact hl2))), fq.1, fq.2.1, .inr fq.2.2, ?_⟩
          generalize (stQ b2 w2 is).shown = sh
          refine ⟨rfl, false, (by rw [decide_eq_true rfl]; rfl), iteF ⟨s9.trans s10, _, _, rfl⟩⟩
        · rintro σ G ⟨s8, x6, x9, rfl⟩
          refine ⟨_, rfl, _, rfl, el, _, rfl, .inl ⟨SqL.of (s8 _ _ hel5), fun te hte => ?_⟩⟩
          have s9 := s8.trans (same_new (o := .tup xs) hte)
          refine ⟨_, rfl, D, _, rfl, .inl ⟨SqL.of (s9 _ _ hD5), fun tp htp => ?_⟩⟩
          have s10 := same_new (o := .tup (ps.map V.int)) htp
          have sA := s9.trans s10
          refine ⟨te, tp, kk, ps, xs, es, rfl, .inr upd_same, l1, by omega, hps, .inr (s10 _ _ upd_same), hE5.same sA, by omega, ok, k0, fun t2 H9 sts2 s11 ht2 hSt2 => ?_⟩
          have sB := sA.trans s11
          refine ⟨_, rfl, ⟨t2, t, _, _, rfl, rfl, SqT.of ht2, SqT.of (sB _ _ ht), sts_eq hSt2 (hSt.same sB) hps k0⟩, fun H10 s12 => ⟨true, rfl, iteT ?_⟩⟩
          have sC : Same H5 H10 := sB.trans s12
          refine ⟨_, rfl, _, _, rfl, .dp (dp_same sC _ _ dE5), showE.1, showE.2.1, .inr showE.2.2, ?_⟩
          rw [htx]
          refine ⟨_, rfl, rfl, ?_⟩
          rw [decide_eq_true rfl]
          exact k _ ((hP5.same sC).mono (by omega)) (F5.trans (same_fr sC))

def chkRow (es : List (Int × List (Option Int))) (k : Int) (i p : Nat) (r : Int × Int × List Int) : Bool := NM.chkSt p ((offsN es i p es.length).map (·.2)) ((((offsN es i p es.length).length : Nat) : Int) - k) r.2.1 r.1 && decide (leftQ p r.1 r.2.1 (offsN es i p es.length) = r.2.2)
theorem row_of {es : List (Int × List (Option Int))} {k : Int} {i p : Nat} {r : Int × Int × List Int} (c : chkRow es k i p r = true) (p2 : 2 ≤ p) (k0 : 0 ≤ k) {b w : Int} {is : List Int} (h : PlayOf es k i (p : Nat) b w is) : r = (b, w, is) := by
  unfold chkRow at c
  rw [Bool.and_eq_true] at c
  obtain ⟨c1, c2⟩ := c
  have c2 := of_decide_eq_true c2
  obtain ⟨hN, rfl⟩ := h
  have lo : ((offsN es i p es.length).map (·.2)).length = (offsN es i p es.length).length := List.length_map ..
  obtain ⟨e1, e2⟩ := (NM.chk_least c1).uniq (hN.least (by omega) (fun o ho => by
    obtain ⟨q, hq, rfl⟩ := List.mem_map.mp ho
    obtain ⟨i, e, m, rfl, _, _⟩ := offsN_mem (Nat.le_refl _) hq
    exact ⟨Int.emod_nonneg _ (by omega), Int.emod_lt_of_pos _ (by omega)⟩) (by rw [lo]; omega))
  obtain ⟨r1, r2, r3⟩ := r
  dsimp only at e1 e2 c2
  subst e1 e2 c2
  rfl
def RowsV (C : Addr) (H : Hp) (ws : List V) (rows : List (Int × Int × List Int)) : Prop := ws.length = rows.length ∧ ∀ (i : Nat) (y : V), ws[i]? = some y → ∃ (x : Addr) (r : Int × Int × List Int), y = .ref x ∧ rows[i]? = some r ∧ StX C H x r.1 r.2.1 r.2.2
theorem rows_of {es : List (Int × List (Option Int))} {k : Int} {ps : List Nat} {rows : List (Int × Int × List Int)} (l : rows.length = ps.length) (c : ((List.range ps.length).all fun i => chkRow es k i (ps.getD i 0) (rows.getD i (0, 0, []))) = true) (p2 : ∀ p ∈ ps, 2 ≤ p) (k0 : 0 ≤ k) {C : Addr} {H : Hp} {ws : List V} (h : StsV C H ws es k (ps.map fun p : Nat => (p : Int)) ps.length) : RowsV C H ws rows := ⟨by rw [h.1, l], fun i y e => by
  obtain ⟨x, p, b, w, is, rfl, hp, hx, hP⟩ := h.2 i y e
  rw [List.getElem?_map] at hp
  obtain ⟨q, hq, rfl⟩ := Option.map_eq_some_iff.mp hp
  have li := (List.getElem?_eq_some_iff.mp hq).1
  have ci := List.all_eq_true.mp c i (List.mem_range.mpr li)
  have eq : ps.getD i 0 = q := by rw [List.getD_eq_getElem?_getD, hq]; rfl
  have er : rows[i]? = some (rows.getD i (0, 0, [])) := by rw [List.getD_eq_getElem?_getD, List.getElem?_eq_getElem (by omega)]; rfl
  rw [eq] at ci
  have := row_of ci (p2 q (List.mem_of_getElem? hq)) k0 hP
  rw [this] at er
  exact ⟨x, (b, w, is), rfl, er, hx⟩⟩
theorem RowsV.same {C : Addr} {H H' : Hp} {ws : List V} {rows : List (Int × Int × List Int)} (s : Same H H') (h : RowsV C H ws rows) : RowsV C H' ws rows := ⟨h.1, fun i y e => by
  obtain ⟨x, r, e1, e2, e3⟩ := h.2 i y e
  exact ⟨x, r, e1, e2, e3.same s⟩⟩
def rowD (r : Int × Int × List Int) : PyData := stQ r.1 r.2.1 r.2.2
theorem dpAll_snoc {K : PySem.W.Frag} {H : Hp} : ∀ {vs : List V} {ds : List PyData} {v : V} {d : PyData}, DpAll K H vs ds → Dp K H v d → DpAll K H (vs ++ [v]) (ds ++ [d])
  | [], [], _, _, _, g => .cons g .nil
  | _ :: _, _ :: _, _, _, .cons h1 h2, g => .cons h1 (dpAll_snoc h2 g)
def es4 : List (Int × List (Option Int)) := [(0, [some 99, some 0]), (205, [some 6, some 25]), (898, [some 99, Option.none]), (450, [some 50, some 3])]
def rows0 : List (Int × Int × List Int) := [(99, 2, []), (0, 3, [])]
def rows1 : List (Int × Int × List Int) := [(0, 1, [0]), (0, 0, [3])]
theorem chk0 : ((List.range [100, 90].length).all fun i => chkRow es4 0 i (([100, 90] : List Nat).getD i 0) (rows0.getD i (0, 0, []))) = true := by decide +kernel
theorem chk1 : ((List.range [100, 90].length).all fun i => chkRow es4 1 i (([100, 90] : List Nat).getD i 0) (rows1.getD i (0, 0, []))) = true := by decide +kernel
theorem ok4 : ∀ e ∈ es4, OkEnt [100, 90] e := fun e he => by
  simp only [es4, List.mem_cons, List.not_mem_nil, or_false] at he
  rcases he with rfl | rfl | rfl | rfl <;> refine ⟨by decide, by decide, rfl, fun i x p h1 h2 => ?_⟩
  all_goals (match i, h1, h2 with
    | 0, h1, h2 => cases h1; cases h2; decide
    | 1, h1, h2 => cases h1 <;> cases h2 <;> decide)
def ps8 : List Nat := [7, 9, 11, 13, 17, 19, 23, 25]
def marks8 (v : Int) : List (Option Int) := (List.range 8).map fun i => some ((v + (i : Nat)) % ((ps8.getD i 0 : Nat) : Int))
def es8 : List (Int × List (Option Int)) := ([0, 5, 1000] : List Int).map fun v => (v, marks8 v)
def rows8 : List (Int × Int × List Int) := (List.range 8).map fun i : Nat => ((i : Int), 0, [])
theorem chk8 : ((List.range ps8.length).all fun i => chkRow es8 0 i (ps8.getD i 0) (rows8.getD i (0, 0, []))) = true := by decide +kernel
theorem hide2_up {D O : Addr} {G G' : Hp} (h : ∀ b o, b ≠ D → b ≠ O → G b = some o → G' b = some o) : Same (hide2 D O G) (hide2 D O G') := fun b o q => by
  by_cases b1 : b = D
  · rw [b1, hide2_d] at q; cases q
  · by_cases b2 : b = O
    · rw [b2, hide2_D] at q; cases q
    · rw [hide2_ne b1 b2] at q ⊢
      exact h b o b1 b2 q
def toldD : PyData := .list ([rows0, rows1].map fun rows => PyData.list (rows.map rowD))
theorem shaped_told : SeqAt.shaped toldD = true := by decide +kernel
theorem eqv_told : PyData.eqv toldD toldD = true := by decide +kernel
theorem dp_row0 {K : PySem.W.Frag} {H : Hp} {a d : Addr} {b w : Int} (h1 : H a = some (.tup [.int b, .int w, .ref d])) (h2 : H d = some (.tup [])) : Dp K H (.ref a) (rowD (b, w, [])) := dp_stQ (is := []) (SqT.of h1) (SqT.of h2)
theorem dp_row1 {K : PySem.W.Frag} {H : Hp} {a d : Addr} {b w i : Int} (h1 : H a = some (.tup [.int b, .int w, .ref d])) (h2 : H d = some (.tup [.int i])) : Dp K H (.ref a) (rowD (b, w, [i])) := dp_stQ (is := [i]) (SqT.of h1) (SqT.of h2)
def due8D : PyData := .list (rows8.map rowD)
theorem shaped_due8 : SeqAt.shaped due8D = true := by decide +kernel
theorem eqv_due8 : PyData.eqv due8D due8D = true := by decide +kernel
def pI8 : List Int := ps8.map fun p : Nat => (p : Int)
theorem pI8_at {i : Nat} {p : Int} (h : pI8[i]? = some p) : i < 8 ∧ p = ((ps8.getD i 0 : Nat) : Int) ∧ 2 ≤ p ∧ p ≤ 25 := by
  match i, h with
  | 0, h => cases h; decide
  | 1, h => cases h; decide
  | 2, h => cases h; decide
  | 3, h => cases h; decide
  | 4, h => cases h; decide
  | 5, h => cases h; decide
  | 6, h => cases h; decide
  | 7, h => cases h; decide
  | _ + 8, h => cases h
theorem marks8_at {v : Int} {i : Nat} {p : Int} (h : pI8[i]? = some p) : (marks8 v)[i]? = some (some ((v + (i : Nat)) % p)) := by
  obtain ⟨l, e, _⟩ := pI8_at h
  unfold marks8
  rw [List.getElem?_map, List.getElem?_range l, e]
  rfl
theorem ok8 : ∀ e ∈ es8, OkEnt pI8 e := fun e he => by
  obtain ⟨v, hv, rfl⟩ := List.mem_map.mp he
  have hb : -BIG < v ∧ v < BIG := by
    simp only [List.mem_cons, List.not_mem_nil, or_false] at hv
    rcases hv with rfl | rfl | rfl <;> decide
  refine ⟨hb.1, hb.2, ?_, fun i x p h1 h2 => ?_⟩
  · show (marks8 v).length = pI8.length
    unfold marks8
    rw [List.length_map]
    rfl
  · have h1 : (marks8 v)[i]? = some (some x) := h1
    rw [marks8_at h2] at h1
    cases h1
    obtain ⟨_, _, p2, _⟩ := pI8_at h2
    exact ⟨Int.emod_nonneg _ (by omega), Int.emod_lt_of_pos _ (by omega)⟩
theorem EntsAt.snoc1 {H : Hp} {xs : List V} {es : List (Int × List (Option Int))} {t : Addr} {e : Int × List (Option Int)} (h : EntsAt H xs es) (n : EntryAt H t e) : EntsAt H (xs ++ [.ref t]) (es ++ [e]) := by
  refine ⟨by rw [List.length_append, List.length_append, h.1]; rfl, fun i y q => ?_⟩
  rcases Nat.lt_or_ge i xs.length with z | z
  · rw [List.getElem?_append_left z] at q
    obtain ⟨t', d', e1, e2, e3⟩ := h.2 i y q
    exact ⟨t', d', e1, by rw [List.getElem?_append_left (by rw [← h.1]; exact z)]; exact e2, e3⟩
  · rw [List.getElem?_append_right z] at q
    have e0 : i - xs.length = 0 := by
      have := (List.getElem?_eq_some_iff.mp q).1
      simp at this
      omega
    rw [e0] at q
    cases q
    refine ⟨t, e, rfl, ?_, n⟩
    rw [List.getElem?_append_right (by rw [← h.1]; exact z), ← h.1, e0]
    rfl
theorem chk7 : ((List.range [7].length).all fun i => chkRow [] 0 i (([7] : List Nat).getD i 0) (([(0, 0, [])] : List (Int × Int × List Int)).getD i (0, 0, []))) = true := by decide +kernel
def es79 : List (Int × List (Option Int)) := [(3, [Option.none, some 3])]
theorem chk79 : ((List.range [7, 9].length).all fun i => chkRow es79 0 i (([7, 9] : List Nat).getD i 0) (([(0, 0, []), (0, 0, [])] : List (Int × Int × List Int)).getD i (0, 0, []))) = true := by decide +kernel
theorem ok79 : ∀ e ∈ es79, OkEnt [7, 9] e := fun e he => by
  simp only [es79, List.mem_cons, List.not_mem_nil, or_false] at he
  rcases he with rfl
  refine ⟨by decide, by decide, rfl, fun i x p h1 h2 => ?_⟩
  match i, h1, h2 with
  | 1, h1, h2 => cases h1; cases h2; decide
theorem mk_same {G H' : Hp} {x dx : Addr} {o1 o2 : HO} (hx : G x = Option.none) (hd : G dx = Option.none) (keep : ∀ y o, y ≠ x → upd (upd G dx o1) x o2 y = some o → H' y = some o) : Same G H' := fun y o h => keep y o (ne_of_none h hx) (by rw [upd_ne (ne_of_none h hx), upd_ne (ne_of_none h hd)]; exact h)
theorem rows_eq {C : Addr} {H : Hp} {xs ys : List V} {rows : List (Int × Int × List Int)} (h : RowsV C H xs rows) (g : RowsV C H ys rows) : Prs (DIns C (StEq C)) xs ys H := ⟨by rw [h.1, g.1], fun i x y h1 h2 => by
  obtain ⟨a, r, rfl, e1, hx⟩ := h.2 i x h1
  obtain ⟨a', r', rfl, e2, hy⟩ := g.2 i y h2
  rw [e1] at e2
  cases e2
  obtain ⟨l1, ⟨dx, f1⟩, f2⟩ := id hx
  obtain ⟨l2, ⟨dy, f3⟩, f4⟩ := id hy
  exact ⟨a, a', dx, dy, _, _, rfl, rfl, f1, f3, _, _, _, hx, hy⟩⟩

def spLaw (K : PySem.W.Frag) : Sp := fun vs H Q _ => ∃ (a : Addr) (ns : List Int), vs = [.ref a] ∧ SqL K H a (ns.map V.int) ∧ ns.length ≤ 63 ∧ ∀ H', Q (.bl true) H'
theorem ok_law (T : Txt K mg) : FnG P w K mg base CX0 8 T.a_law (spLaw K) := by
  refine FnG.mk0 T.F_law sc_law (b_law T) (fun vs H Q E h => ?_) (fun cdv A outer s H vs Q E gu hr h => ?_)
  · obtain ⟨a, ns, rfl, _⟩ := h; rfl
  · obtain ⟨a, ns, rfl, hS, hl, k⟩ := h
    refine ⟨_, pss_cons (ps_set (i := 1) sc_law.nd rfl (Or.inl rfl) (pe_call (ok_pen T) (hr.mono (by decide)) rfl T.m_pen T.F_pen.kp (b_pen T) .nil pass0 (pa_cons (pv 0) (pa_nil))))
      (pss_cons (ps_for PassesOwn.never rfl (pi_range1 (by rfl) T.n_range (pa_cons (pe_int) (pa_nil))) (pg_name (i := 2) sc_law.nd rfl (Or.inl rfl)) (pss_one (ps_if (pt_not (pt_val (pe_callG gu (ok_right T) (hr.mono (by decide)) T.F_right.kp rfl T.m_right pass0 (pa_cons (pv 1) (pa_nil))))) (pss_one (ps_ret (pe_bl))) (pss_nil))))
      (pss_cons (ps_set (i := 3) sc_law.nd rfl (Or.inr rfl) (pe_lst (pa_cons (pe_tup (pa_cons (pe_int) (pa_cons (pe_tup (pa_cons (pe_int) (pa_cons (pe_int) (pa_nil)))) (pa_nil)))) (pa_cons (pe_tup (pa_cons (pe_int) (pa_cons (pe_tup (pa_cons (pe_int) (pa_cons (pe_int) (pa_nil)))) (pa_nil)))) (pa_cons (pe_tup (pa_cons (pe_int) (pa_cons (pe_tup (pa_cons (pe_int) (pa_cons (pe_non) (pa_nil)))) (pa_nil)))) (pa_cons (pe_tup (pa_cons (pe_int) (pa_cons (pe_lst (pa_cons (pe_int) (pa_cons (pe_int) (pa_nil)))) (pa_nil)))) (pa_nil)))))))
      (pss_cons (ps_setLc (i := 4) (own := [("_law_skip", 6)]) (g := gName 6) (tt := tYes) rfl sc_law.nd rfl rfl (sw_true rfl rfl rfl (by decide +kernel)) (pi_tup (pe_tup (pa_cons (pe_int) (pa_cons (pe_int) (pa_nil))))) (blkOk_by (own := [("_law_skip", 6)]) (N := ["_law_script", "_law_pen_here", "_law_turn", "_law_entries_here", "_law_told", "_law_one", "_law_skip", "_law_periods", "_law_eight", "_law_at", "_law_period", "_law_value"]) (sc := defScope s_law) (by decide +kernel)) (fun _ _ _ _ _ => pg_name (i := 6) sc_law.nd rfl (Or.inl rfl)) (fun _ _ _ _ _ => pts_nil) (fun _ _ _ _ _ => pe_lc (own := [("_law_one", 5)]) (g := gName 5) (tt := tYes) rfl sc_law.nd (pi_tup2 K (by rfl) (pe_call (ok_plays T) (hr.mono (by decide)) rfl T.m_plays T.F_plays.kp (b_plays T) .nil pass0 (pa_cons (pe_tup (pa_cons (pe_int) (pa_cons (pe_int) (pa_nil)))) (pa_cons (pv 3) (pa_cons (pv 6) (pa_nil)))))) (blkOk_by (own := [("_law_one", 5)]) (N := ["_law_script", "_law_pen_here", "_law_turn", "_law_entries_here", "_law_told", "_law_one", "_law_skip", "_law_periods", "_law_eight", "_law_at", "_law_period", "_law_value"]) (sc := relS { kind := ScopeKind.function, names := [(".0", NameKind.local), ("_law_skip", NameKind.local), ("plays", NameKind.globalImplicit), ("_law_entries_here", NameKind.free)], isGenerator := false, isCoroutine := false } (defScope s_law)) (by decide +kernel)) (fun _ _ _ _ _ => pg_name (i := 5) sc_law.nd rfl (Or.inl rfl)) (fun _ _ _ _ _ => pts_nil) (fun _ _ _ _ _ => pe_tup (pa_cons (pe_fldC K (by rfl) (pv 5) rfl) (pa_cons (pe_fldC K (by rfl) (pv 5) rfl) (pa_cons (pe_fldC K (by rfl) (pv 5) rfl) (pa_nil)))))))
      (pss_cons (ps_if (pt_cmpR (op_neD hr.units) (pv 4) (pe_lst (pa_cons (pe_lst (pa_cons (pe_tup (pa_cons (pe_int) (pa_cons (pe_int) (pa_cons (pe_tup (pa_nil)) (pa_nil))))) (pa_cons (pe_tup (pa_cons (pe_int) (pa_cons (pe_int) (pa_cons (pe_tup (pa_nil)) (pa_nil))))) (pa_nil)))) (pa_cons (pe_lst (pa_cons (pe_tup (pa_cons (pe_int) (pa_cons (pe_int) (pa_cons (pe_tup (pa_cons (pe_int) (pa_nil))) (pa_nil))))) (pa_cons (pe_tup (pa_cons (pe_int) (pa_cons (pe_int) (pa_cons (pe_tup (pa_cons (pe_int) (pa_nil))) (pa_nil))))) (pa_nil)))) (pa_nil)))) (nomark _)) (pss_one (ps_ret (pe_bl))) (pss_nil))
      (pss_cons (ps_set (i := 7) sc_law.nd rfl (Or.inr rfl) (pe_lst (pa_cons (pe_int) (pa_cons (pe_int) (pa_cons (pe_int) (pa_cons (pe_int) (pa_cons (pe_int) (pa_cons (pe_int) (pa_cons (pe_int) (pa_cons (pe_int) (pa_nil)))))))))))
      (pss_cons (ps_setLc (i := 8) (own := [("_law_value", 11)]) (g := gName 11) (tt := tYes) rfl sc_law.nd rfl rfl (sw_true rfl rfl rfl (by decide +kernel)) (pi_tup (pe_tup (pa_cons (pe_int) (pa_cons (pe_int) (pa_cons (pe_int) (pa_nil)))))) (blkOk_by (own := [("_law_value", 11)]) (N := ["_law_script", "_law_pen_here", "_law_turn", "_law_entries_here", "_law_told", "_law_one", "_law_skip", "_law_periods", "_law_eight", "_law_at", "_law_period", "_law_value"]) (sc := defScope s_law) (by decide +kernel)) (fun _ _ _ _ _ => pg_name (i := 11) sc_law.nd rfl (Or.inr rfl)) (fun _ _ _ _ _ => pts_nil) (fun _ _ _ _ _ => pe_tup (pa_cons (pv 11) (pa_cons (pe_lc (own := [("_law_at", 9), ("_law_period", 10)]) (tt := tYes) rfl sc_law.nd (pi_enumK K (by rfl) (by rfl) T.n_enumerate (pa_cons (pv 7) pa_nil)) (blkOk_by (own := [("_law_at", 9), ("_law_period", 10)]) (N := ["_law_script", "_law_pen_here", "_law_turn", "_law_entries_here", "_law_told", "_law_one", "_law_skip", "_law_periods", "_law_eight", "_law_at", "_law_period", "_law_value"]) (sc := relS { kind := ScopeKind.function, names := [(".0", NameKind.local), ("_law_value", NameKind.cell), ("enumerate", NameKind.globalImplicit), ("_law_periods", NameKind.free)], isGenerator := false, isCoroutine := false } (defScope s_law)) (by decide +kernel)) (fun _ _ _ _ _ => pg_tup2 K 2 (by rfl) (by rfl) (pgs_cons (pg_name (i := 9) sc_law.nd rfl (Or.inl rfl)) (pgs_cons (pg_name (i := 10) sc_law.nd rfl (Or.inl rfl)) (pgs_nil)))) (fun _ _ _ _ _ => pts_nil) (fun _ _ _ _ _ => pe_op op_modN (pe_callTy call_int1 (by rfl) T.n_int (by decide +kernel) (pa_cons (pe_op op_add (pv 11) (pv 9)) (pa_nil))) (pv 10))) (pa_nil)))))
      (pss_cons (ps_if (pt_cmpR (op_neD hr.units) (pe_lc (own := [("_law_one", 5)]) (g := gName 5) (tt := tYes) rfl sc_law.nd (pi_tup (pe_call (ok_plays T) (hr.mono (by decide)) rfl T.m_plays T.F_plays.kp (b_plays T) .nil pass0 (pa_cons (pv 7) (pa_cons (pv 8) (pa_cons (pe_int) (pa_nil)))))) (blkOk_by (own := [("_law_one", 5)]) (N := ["_law_script", "_law_pen_here", "_law_turn", "_law_entries_here", "_law_told", "_law_one", "_law_skip", "_law_periods", "_law_eight", "_law_at", "_law_period", "_law_value"]) (sc := defScope s_law) (by decide +kernel)) (fun _ _ _ _ _ => pg_name (i := 5) sc_law.nd rfl (Or.inl rfl)) (fun _ _ _ _ _ => pts_nil) (fun _ _ _ _ _ => pe_tup (pa_cons (pe_fldC K (by rfl) (pv 5) rfl) (pa_cons (pe_fldC K (by rfl) (pv 5) rfl) (pa_cons (pe_fldC K (by rfl) (pv 5) rfl) (pa_nil)))))) (pe_lc (own := [("_law_at", 9)]) (g := gName 9) (tt := tYes) rfl sc_law.nd (pi_range1 (by rfl) T.n_range (pa_cons (pe_int) (pa_nil))) (blkOk_by (own := [("_law_at", 9)]) (N := ["_law_script", "_law_pen_here", "_law_turn", "_law_entries_here", "_law_told", "_law_one", "_law_skip", "_law_periods", "_law_eight", "_law_at", "_law_period", "_law_value"]) (sc := defScope s_law) (by decide +kernel)) (fun _ _ _ _ _ => pg_name (i := 9) sc_law.nd rfl (Or.inl rfl)) (fun _ _ _ _ _ => pts_nil) (fun _ _ _ _ _ => pe_tup (pa_cons (pv 9) (pa_cons (pe_int) (pa_cons (pe_tup (pa_nil)) (pa_nil)))))) (nomark _)) (pss_one (ps_ret (pe_bl))) (pss_nil))
      (pss_one (ps_ret (pe_and (pe_cmpR (op_eqG (rcG_tup (mon_ins (stEq_mon (C := T.a_Stretch))) (eqG_ins (ok_eqR T) T.fi_eq T.fn_eq (b_Stretch_eq T) pass0)) (hr.mono (by decide))) (pe_call (ok_plays T) (hr.mono (by decide)) rfl T.m_plays T.F_plays.kp (b_plays T) .nil pass0 (pa_cons (pe_lst (pa_cons (pe_int) (pa_nil))) (pa_cons (pe_lst (pa_nil)) (pa_cons (pe_int) (pa_nil))))) (pe_tup (pa_cons (pe_mkR T.mks ((ok_Stretch_init T).raw (b_Stretch_init T) .nil) (hr.mono (by decide)) pass0 rfl T.m_Stretch (pa_cons (pe_int) (pa_cons (pe_int) (pa_cons (pe_tup (pa_nil)) (pa_nil))))) (pa_nil))) (nomark _)) (pe_one (pe_cmpR (op_eqG (rcG_tup (mon_ins (stEq_mon (C := T.a_Stretch))) (eqG_ins (ok_eqR T) T.fi_eq T.fn_eq (b_Stretch_eq T) pass0)) (hr.mono (by decide))) (pe_call (ok_plays T) (hr.mono (by decide)) rfl T.m_plays T.F_plays.kp (b_plays T) .nil pass0 (pa_cons (pe_lst (pa_cons (pe_int) (pa_cons (pe_int) (pa_nil)))) (pa_cons (pe_lst (pa_cons (pe_tup (pa_cons (pe_int) (pa_cons (pe_tup (pa_cons (pe_non) (pa_cons (pe_int) (pa_nil)))) (pa_nil)))) (pa_nil))) (pa_cons (pe_int) (pa_nil))))) (pe_tup (pa_cons (pe_mkR T.mks ((ok_Stretch_init T).raw (b_Stretch_init T) .nil) (hr.mono (by decide)) pass0 rfl T.m_Stretch (pa_cons (pe_int) (pa_cons (pe_int) (pa_cons (pe_tup (pa_nil)) (pa_nil))))) (pa_cons (pe_mkR T.mks ((ok_Stretch_init T).raw (b_Stretch_init T) .nil) (hr.mono (by decide)) pass0 rfl T.m_Stretch (pa_cons (pe_int) (pa_cons (pe_int) (pa_cons (pe_tup (pa_nil)) (pa_nil))))) (pa_nil)))) (nomark _))))))))))))), ?_⟩
    refine ⟨_, rfl, a, ns, rfl, hS, hl, fun p H1 s1 hP => ?_⟩
    refine ⟨14, rfl, by decide, by decide, for_range (n := 14) (fun i σ G => ∃ x2 : Option V, σ = [some (.ref a), some (.ref p), x2, Option.none, Option.none, Option.none, Option.none, Option.none, Option.none, Option.none, Option.none, Option.none] ∧ Pen G p (400 * i))
      ⟨_, rfl, hP⟩ ?_ ?_⟩
    · rintro i σ H2 hi ⟨x2, rfl, hP2⟩
      have hi : i < 14 := hi
      exact ⟨_, rfl, p, 400 * i, rfl, hP2, by omega, fun H3 hP3 f3 => ⟨true, rfl, iteF ⟨_, rfl, hP3.mono (by omega)⟩⟩⟩
    · rintro σ H2 ⟨x2, rfl, hP2⟩
      clear hP2 hP s1
      refine ⟨(by show 2 ≤ sizeLine; decide), fun c1 hc1 => ⟨(by show 2 ≤ sizeLine; decide), fun e1 he1 => ⟨(by show 2 ≤ sizeLine; decide), fun c2 hc2 => ⟨(by show 2 ≤ sizeLine; decide), fun e2 he2 => ⟨(by show 2 ≤ sizeLine; decide), fun c3 hc3 => ⟨(by show 2 ≤ sizeLine; decide), fun e3 he3 => ⟨(by show 2 ≤ sizeLine; decide), fun c4 hc4 => ⟨(by show 2 ≤ sizeLine; decide), fun e4 he4 => ⟨(by show 4 ≤ sizeLine; decide), fun L hL => ?_⟩⟩⟩⟩⟩⟩⟩⟩⟩
      have u1 := same_new (o := .tup [.int 99, .int 0]) hc1
      have u2 := same_new (o := .tup [.int 0, .ref c1]) he1
      have u3 := same_new (o := .tup [.int 6, .int 25]) hc2
      have u4 := same_new (o := .tup [.int 205, .ref c2]) he2
      have u5 := same_new (o := .tup [.int 99, .non]) hc3
      have u6 := same_new (o := .tup [.int 898, .ref c3]) he3
      have u7 := same_new (o := .lst [.int 50, .int 3]) hc4
      have u8 := same_new (o := .tup [.int 450, .ref c4]) he4
      have u9 := same_new (o := .lst [.ref e1, .ref e2, .ref e3, .ref e4]) hL
      have v8 := u8.trans u9
      have v7 := u7.trans v8
      have v6 := u6.trans v7
      have v5 := u5.trans v6
      have v4 := u4.trans v5
      have v3 := u3.trans v4
      have v2 := u2.trans v3
      have hE : EntsAt (upd (upd (upd (upd (upd (upd (upd (upd (upd H2 c1 (.tup [.int 99, .int 0])) e1 (.tup [.int 0, .ref c1])) c2 (.tup [.int 6, .int 25])) e2 (.tup [.int 205, .ref c2])) c3 (.tup [.int 99, .non])) e3 (.tup [.int 898, .ref c3])) c4 (.lst [.int 50, .int 3])) e4 (.tup [.int 450, .ref c4])) L (.lst [.ref e1, .ref e2, .ref e3, .ref e4])) [.ref e1, .ref e2, .ref e3, .ref e4] es4 := ⟨rfl, fun i y q => by
        match i, q with
        | 0, q => cases q; exact ⟨e1, _, rfl, rfl, c1, v3 _ _ upd_same, .inr (v2 _ _ upd_same)⟩
        | 1, q => cases q; exact ⟨e2, _, rfl, rfl, c2, v5 _ _ upd_same, .inr (v4 _ _ upd_same)⟩
        | 2, q => cases q; exact ⟨e3, _, rfl, rfl, c3, v7 _ _ upd_same, .inr (v6 _ _ upd_same)⟩
        | 3, q => cases q; exact ⟨e4, _, rfl, rfl, c4, u9 _ _ upd_same, .inl (v8 _ _ upd_same)⟩⟩
      have hL4 := (upd_same : (upd (upd (upd (upd (upd (upd (upd (upd (upd H2 c1 (.tup [.int 99, .int 0])) e1 (.tup [.int 0, .ref c1])) c2 (.tup [.int 6, .int 25])) e2 (.tup [.int 205, .ref c2])) c3 (.tup [.int 99, .non])) e3 (.tup [.int 898, .ref c3])) c4 (.lst [.int 50, .int 3])) e4 (.tup [.int 450, .ref c4])) L (.lst [.ref e1, .ref e2, .ref e3, .ref e4])) L = _)
      generalize upd (upd (upd (upd (upd (upd (upd (upd (upd H2 c1 (.tup [.int 99, .int 0])) e1 (.tup [.int 0, .ref c1])) c2 (.tup [.int 6, .int 25])) e2 (.tup [.int 205, .ref c2])) c3 (.tup [.int 99, .non])) e3 (.tup [.int 898, .ref c3])) c4 (.lst [.int 50, .int 3])) e4 (.tup [.int 450, .ref c4])) L (.lst [.ref e1, .ref e2, .ref e3, .ref e4]) = H4 at hE hL4 ⊢
      clear v2 v3 v4 v5 v6 v7 v8 u1 u2 u3 u4 u5 u6 u7 u8 u9
      refine ⟨(by show 2 ≤ sizeLine; decide), fun u hu => ?_⟩
      have su := same_new (o := .tup [.int 0, .int 1]) hu
      have hE := hE.same su
      have hL5 := su _ _ hL4
      have hu5 : (upd H4 u (.tup [.int 0, .int 1])) u = some (.tup [.int 0, .int 1]) := upd_same
      generalize upd H4 u (.tup [.int 0, .int 1]) = H5 at hE hL5 hu5 ⊢
      refine ⟨u, rfl, ⟨_, SqT.of hu5⟩, fun O hO => lc_tup (K := K) (a := u) (xs := [.int 0, .int 1]) (fun j G => Same H5 G ∧ ∃ vs : List V, G O = some (.lst vs) ∧ vs.length = j ∧ DpAll K (hideA O G) vs (([rows0, rows1].map fun rows => PyData.list (rows.map rowD)).take j)) ⟨same_new hO, [], upd_same, rfl, .nil⟩ (fun j G _ z => SqT.of (z.1 _ _ hu5)) ?_ ?_⟩
      · rintro j x G hx ⟨sG, vs, hOG, lj, dp⟩
        obtain ⟨rows, rfl, hj2, hrows, hdj⟩ : ∃ rows : List (Int × Int × List Int), x = .int (j : Nat) ∧ j < 2 ∧ (∀ (C : Addr) (H : Hp) (ws : List V), StsV C H ws es4 (j : Nat) [100, 90] 2 → RowsV C H ws rows) ∧ ([rows0, rows1].map fun rows => PyData.list (rows.map rowD))[j]? = some (.list (rows.map rowD)) := by
          match j, hx with
          | 0, h => cases h; exact ⟨rows0, rfl, by decide, fun C H ws h => rows_of rfl chk0 (by decide) (by decide) h, rfl⟩
          | 1, h => cases h; exact ⟨rows1, rfl, by decide, fun C H ws h => rows_of rfl chk1 (by decide) (by decide) h, rfl⟩
        refine ⟨rfl, (by show 2 ≤ sizeLine; decide), fun v hv => ?_⟩
        have sv := sG.trans (same_new (o := .tup [.int 100, .int 90]) hv)
        have hv5 : (upd G v (.tup [.int 100, .int 90])) v = some (.tup [.int 100, .int 90]) := upd_same
        have hOv := same_new (o := .tup [.int 100, .int 90]) hv _ _ hOG
        have sGv := same_new (o := .tup [.int 100, .int 90]) hv
        generalize upd G v (.tup [.int 100, .int 90]) = G1 at sv hv5 hOv sGv ⊢
        refine ⟨_, rfl, _, rfl, L, v, (j : Nat), [100, 90], _, es4, rfl, .inr hv5, by decide, by decide, by decide, .inl (sv _ _ hL5), hE.same sv, by decide, ok4, by omega, fun t G2 sts s2 ht hSt => ?_⟩
        have hR := hrows _ _ _ hSt
        have hO2 := s2 _ _ hOv
        refine ⟨t, rfl, ⟨_, SqT.of ht⟩, fun D hD => lc_tup (K := K) (a := t) (xs := sts) (fun m G3 => Same G2 G3 ∧ ∃ ts : List V, G3 D = some (.lst ts) ∧ ts.length = m ∧ DpAll K (hide2 D O G3) ts ((rows.map rowD).take m)) ⟨same_new hD, [], upd_same, rfl, .nil⟩ (fun m G3 _ z => SqT.of (z.1 _ _ ht)) ?_ ?_⟩
        · rintro m y G3 hy ⟨s3, ts, hDG, lm, dp3⟩
          obtain ⟨x, r, rfl, hr0, hx⟩ := hR.2 m y hy
          obtain ⟨lt, ⟨dx, hx1⟩, hlt⟩ := hx.same s3
          have hO3 := s3 _ _ hO2
          refine ⟨rfl, _, rfl, x, T.a_Stretch, dx, _, _, rfl, hx1, T.cls, T.na _ (by simp), rfl, _, rfl, x, T.a_Stretch, dx, _, _, rfl, hx1, T.cls, T.na _ (by simp), rfl, _, rfl, x, T.a_Stretch, dx, _, _, rfl, hx1, T.cls, T.na _ (by simp), rfl, (by show 3 ≤ sizeLine; decide), fun e he => ?_⟩
          have se := same_new (o := .tup [.int r.1, .int r.2.1, .ref lt]) he
          have hDe := se _ _ hDG
          have hOe := se _ _ hO3
          have hee : (upd G3 e (.tup [.int r.1, .int r.2.1, .ref lt])) e = some (.tup [.int r.1, .int r.2.1, .ref lt]) := upd_same
          have hle := se _ _ hlt
          generalize upd G3 e (.tup [.int r.1, .int r.2.1, .ref lt]) = G6 at se hDe hOe hee hle ⊢
          have tu : ∀ (b : Addr) (zs : List V), G6 b = some (.tup zs) → hide2 D O (upd G6 D (.lst (ts ++ [.ref e]))) b = some (.tup zs) := fun b zs h => by
            have b1 : b ≠ D := fun z => by rw [z, hDe] at h; cases h
            have b2 : b ≠ O := fun z => by rw [z, hOe] at h; cases h
            rw [hide2_ne b1 b2, upd_ne b1]
            exact h
          have lr : m < rows.length := (List.getElem?_eq_some_iff.mp hr0).1
          refine ⟨_, hDe, ?_, same_up (s3.trans se) hD, ts ++ [.ref e], upd_same, by rw [List.length_append, lm]; rfl, ?_⟩
          · have h2 : sts.length = 2 := hSt.1
            have := (List.getElem?_eq_some_iff.mp hy).1
            exact Nat.lt_of_le_of_lt (show ts.length ≤ 2 by show _ ≤ 2; omega) (by decide)
          · rw [List.take_add_one, List.getElem?_map, hr0]
            refine dpAll_snoc (dp_sameAll (hide2_up fun b o b1 _ h => by rw [upd_ne b1]; exact se _ _ h) _ _ dp3) ?_
            exact dp_stQ (SqT.of (tu _ _ hee)) (SqT.of (tu _ _ hle))
        · rintro G3 ⟨s3, ts, hDG, lm, dp3⟩
          have hO3 := s3 _ _ hO2
          have nDO : D ≠ O := fun z => by rw [z, hO2] at hD; cases hD
          rw [List.take_of_length_le (by rw [List.length_map, hR.1]; exact Nat.le_refl _)] at dp3
          have dD : Dp K (hideA O G3) (.ref D) (.list (rows.map rowD)) := .lst (SqL.of (by rw [hide_ne nDO]; exact hDG)) (dp_sameAll (hide_sub (D := D) (H := hideA O G3)) _ _ dp3)
          have su2 : Same (hideA O G3) (hideA O (upd G3 O (.lst (vs ++ [.ref D])))) := hide_up fun b o n h => by rw [upd_ne n]; exact h
          have sG3 : Same (hideA O G) (hideA O (upd G3 O (.lst (vs ++ [.ref D])))) := hide_up fun b o n h => by rw [upd_ne n]; exact s3 _ _ (s2 _ _ (sGv _ _ h))
          refine ⟨_, hO3, by rw [lj]; exact Nat.lt_of_lt_of_le hj2 (by decide), same_up (sv.trans (s2.trans s3)) hO, vs ++ [.ref D], upd_same, by rw [List.length_append, lj]; rfl, ?_⟩
          rw [List.take_add_one, hdj]
          exact dpAll_snoc (dp_sameAll sG3 _ _ dp) (dp_same su2 _ _ dD)
      · rintro H6 ⟨s6, vs, hO6, _, dp⟩
        have dp : DpAll K H6 vs ([rows0, rows1].map fun rows => PyData.list (rows.map rowD)) := dp_sameAll hide_sub _ _ dp
        have dT : Dp K H6 (.ref O) toldD := .lst (SqL.of hO6) dp
        refine ⟨_, rfl, Nat.zero_le _, fun d1 k1 => ⟨(by show 3 ≤ sizeLine; decide), fun a1 m1 => ⟨Nat.zero_le _, fun d2 k2 => ⟨(by show 3 ≤ sizeLine; decide), fun a2 m2 => ⟨(by show 2 ≤ sizeLine; decide), fun l1 n1 => ⟨(by show 1 ≤ sizeLine; decide), fun d3 k3 => ⟨(by show 3 ≤ sizeLine; decide), fun a3 m3 => ⟨(by show 1 ≤ sizeLine; decide), fun d4 k4 => ⟨(by show 3 ≤ sizeLine; decide), fun a4 m4 => ⟨(by show 2 ≤ sizeLine; decide), fun l2 n2 => ⟨(by show 2 ≤ sizeLine; decide), fun l0 n0 => ?_⟩⟩⟩⟩⟩⟩⟩⟩⟩⟩⟩
        have t1 := same_new (o := .tup []) k1
        have t2 := same_new (o := .tup [.int 99, .int 2, .ref d1]) m1
        have t3 := same_new (o := .tup []) k2
        have t4 := same_new (o := .tup [.int 0, .int 3, .ref d2]) m2
        have t5 := same_new (o := .lst [.ref a1, .ref a2]) n1
        have t6 := same_new (o := .tup [.int 0]) k3
        have t7 := same_new (o := .tup [.int 0, .int 1, .ref d3]) m3
        have t8 := same_new (o := .tup [.int 3]) k4
        have t9 := same_new (o := .tup [.int 0, .int 0, .ref d4]) m4
        have t10 := same_new (o := .lst [.ref a3, .ref a4]) n2
        have t11 := same_new (o := .lst [.ref l1, .ref l2]) n0
        have q10 := t10.trans t11
        have q9 := t9.trans q10
        have q8 := t8.trans q9
        have q7 := t7.trans q8
        have q6 := t6.trans q7
        have q5 := t5.trans q6
        have q4 := t4.trans q5
        have q3 := t3.trans q4
        have q2 := t2.trans q3
        have q1 := t1.trans q2
        refine ⟨toldD, toldD, dp_same q1 _ _ dT, .lst (SqL.of upd_same) (.cons (.lst (SqL.of (q6 _ _ upd_same)) (.cons (dp_row0 (q3 _ _ upd_same) (q2 _ _ upd_same)) (.cons (dp_row0 (q5 _ _ upd_same) (q4 _ _ upd_same)) .nil))) (.cons (.lst (SqL.of (t11 _ _ upd_same)) (.cons (dp_row1 (q8 _ _ upd_same) (q7 _ _ upd_same)) (.cons (dp_row1 (q10 _ _ upd_same) (q9 _ _ upd_same)) .nil))) .nil)), shaped_told, shaped_told, false, by rw [eqv_told]; rfl, iteF ?_⟩
        clear dT q1 q2 q3 q4 q5 q6 q7 q8 q9 q10 t1 t2 t3 t4 t5 t6 t7 t8 t9 t10 t11 dp hO6 s6 hE hL4 hL5 hu5 su
        generalize upd (upd (upd (upd (upd (upd (upd (upd (upd (upd (upd H6 d1 (.tup [])) a1 (.tup [.int 99, .int 2, .ref d1])) d2 (.tup [])) a2 (.tup [.int 0, .int 3, .ref d2])) l1 (.lst [.ref a1, .ref a2])) d3 (.tup [.int 0])) a3 (.tup [.int 0, .int 1, .ref d3])) d4 (.tup [.int 3])) a4 (.tup [.int 0, .int 0, .ref d4])) l2 (.lst [.ref a3, .ref a4])) l0 (.lst [.ref l1, .ref l2]) = H7
        refine ⟨(by show 8 ≤ sizeLine; decide), fun W hW => ?_⟩
        have hW8 : (upd H7 W (.lst (pI8.map V.int))) W = some (.lst (pI8.map V.int)) := upd_same
        change gName 7 (V.ref W) _ (upd H7 W (.lst (pI8.map V.int))) _
        generalize upd H7 W (.lst (pI8.map V.int)) = H8 at hW8 ⊢
        refine ⟨(by show 3 ≤ sizeLine; decide), fun u hu => ?_⟩
        have hW9 := same_new (o := .tup [.int 0, .int 5, .int 1000]) hu _ _ hW8
        have hu9 : (upd H8 u (.tup [.int 0, .int 5, .int 1000])) u = some (.tup [.int 0, .int 5, .int 1000]) := upd_same
        generalize upd H8 u (.tup [.int 0, .int 5, .int 1000]) = H9 at hW9 hu9 ⊢
        refine ⟨u, rfl, ⟨_, SqT.of hu9⟩, fun I8 hI => lc_tup (K := K) (a := u) (xs := [.int 0, .int 5, .int 1000]) (fun j G => Same H9 G ∧ ∃ xs : List V, G I8 = some (.lst xs) ∧ EntsAt (hideA I8 G) xs (es8.take j)) ⟨same_new hI, [], upd_same, rfl, fun i y e => by simp at e⟩ (fun j G _ z => SqT.of (z.1 _ _ hu9)) ?_ ?_⟩
        · rintro j x G hx ⟨sG, xs, hIG, hEG⟩
          obtain ⟨v, rfl, hej, j3⟩ : ∃ v : Int, x = .int v ∧ es8[j]? = some (v, marks8 v) ∧ j < 3 := by
            match j, hx with
            | 0, h => cases h; exact ⟨0, rfl, rfl, by decide⟩
            | 1, h => cases h; exact ⟨5, rfl, rfl, by decide⟩
            | 2, h => cases h; exact ⟨1000, rfl, rfl, by decide⟩
          have hWG := sG _ _ hW9
          refine ⟨rfl, _, rfl, _, rfl, W, pI8.map V.int, rfl, SqL.of hWG, fun D hD => lc_enumL (K := K) (a := W) (xs := pI8.map V.int) (fun m G2 => Same G G2 ∧ G2 D = some (.lst (((marks8 v).take m).map mV))) ⟨same_new hD, upd_same⟩ (fun m G2 _ z => SqL.of (z.1 _ _ hWG)) ?_ ?_⟩
          · rintro m y G2 c hy ⟨s2, hD2⟩ hc
            rw [List.getElem?_map] at hy
            obtain ⟨q, hq, rfl⟩ := Option.map_eq_some_iff.mp hy
            obtain ⟨m8, _, q2, _⟩ := pI8_at hq
            have sc := same_new (o := .tup [.int (m : Nat), .int q]) hc
            have hDc := sc _ _ hD2
            refine ⟨c, _, rfl, SqT.of upd_same, rfl, _, _, rfl, _, _, rfl, rfl, ?_⟩
            refine ⟨rfl, _, rfl, _, rfl, _, _, rfl, rfl, .inl ⟨_, rfl, _, rfl, _, _, rfl, rfl, (by omega), _, hDc, ?_, same_up (s2.trans sc) hD, ?_⟩⟩
            · rw [List.length_map]
              exact Nat.lt_of_le_of_lt (List.length_take_le _ _) (Nat.lt_of_lt_of_le (show m < 9 by omega) (by decide))
            · have ef : (v + (m : Nat)).fmod q = (v + (m : Nat)) % q := Int.fmod_eq_emod_of_nonneg _ (by omega)
              rw [upd_same, List.take_add_one, marks8_at hq, List.map_append]
              show some (HO.lst (_ ++ [V.int ((v + (m : Nat)).fmod q)])) = _
              rw [ef]
              rfl
          · rintro G2 ⟨s2, hD2⟩
            have l8 : (pI8.map V.int).length = 8 := by decide
            rw [l8, List.take_of_length_le (by unfold marks8; rw [List.length_map, List.length_range]; exact Nat.le_refl _)] at hD2
            refine ⟨(by show 2 ≤ sizeLine; decide), fun e he => ?_⟩
            have se := same_new (o := .tup [.int v, .ref D]) he
            have s3 := s2.trans se
            have hIe := s3 _ _ hIG
            have hDe := se _ _ hD2
            have hee : (upd G2 e (.tup [.int v, .ref D])) e = some (.tup [.int v, .ref D]) := upd_same
            generalize upd G2 e (.tup [.int v, .ref D]) = G4 at s3 hIe hDe hee ⊢
            have nDI : D ≠ I8 := fun z => by rw [z, hIG] at hD; cases hD
            have neI : e ≠ I8 := fun z => by rw [z, hIe] at hee; cases hee
            refine ⟨_, hIe, ?_, same_up (sG.trans s3) hI, xs ++ [.ref e], upd_same, ?_⟩
            · have := hEG.1
              rw [List.length_take] at this
              exact Nat.lt_of_le_of_lt (show xs.length ≤ 3 by omega) (by decide)
            · rw [List.take_add_one, hej]
              refine EntsAt.snoc1 (hEG.same (hide_up fun b o n h => by rw [upd_ne n]; exact s3 _ _ h)) ⟨D, ?_, .inl ?_⟩
              · rw [hide_ne neI, upd_ne neI]
                exact hee
              · rw [hide_ne nDI, upd_ne nDI]
                exact hDe
        · rintro HA ⟨sA, xs, hIA, hEA⟩
          have hEA : EntsAt HA xs es8 := hEA.same hide_sub
          have hWA := sA _ _ hW9
          refine ⟨_, rfl, _, rfl, I8, W, 0, pI8, xs, es8, rfl, .inl hWA, by decide, by decide, fun p hp => ?_, .inl hIA, hEA, by decide, ok8, by decide, fun t G2 sts s2 ht hSt => ?_⟩
          · obtain ⟨i, hi⟩ := List.getElem?_of_mem hp
            obtain ⟨_, _, h2, h25⟩ := pI8_at hi
            exact ⟨h2, by omega⟩
          have hR := rows_of (ps := ps8) (rows := rows8) rfl chk8 (by decide) (by decide) hSt
          refine ⟨t, rfl, ⟨_, SqT.of ht⟩, fun D hD => lc_tup (K := K) (a := t) (xs := sts) (fun m G3 => Same G2 G3 ∧ ∃ ts : List V, G3 D = some (.lst ts) ∧ ts.length = m ∧ DpAll K (hideA D G3) ts ((rows8.map rowD).take m)) ⟨same_new hD, [], upd_same, rfl, .nil⟩ (fun m G3 _ z => SqT.of (z.1 _ _ ht)) ?_ ?_⟩
          · rintro m y G3 hy ⟨s3, ts, hDG, lm, dp3⟩
            obtain ⟨x, r, rfl, hr0, hx⟩ := hR.2 m y hy
            obtain ⟨lt, ⟨dx, hx1⟩, hlt⟩ := hx.same s3
            refine ⟨rfl, _, rfl, x, T.a_Stretch, dx, _, _, rfl, hx1, T.cls, T.na _ (by simp), rfl, _, rfl, x, T.a_Stretch, dx, _, _, rfl, hx1, T.cls, T.na _ (by simp), rfl, _, rfl, x, T.a_Stretch, dx, _, _, rfl, hx1, T.cls, T.na _ (by simp), rfl, (by show 3 ≤ sizeLine; decide), fun e he => ?_⟩
            have se := same_new (o := .tup [.int r.1, .int r.2.1, .ref lt]) he
            have hDe := se _ _ hDG
            have hee : (upd G3 e (.tup [.int r.1, .int r.2.1, .ref lt])) e = some (.tup [.int r.1, .int r.2.1, .ref lt]) := upd_same
            have hle := se _ _ hlt
            generalize upd G3 e (.tup [.int r.1, .int r.2.1, .ref lt]) = G6 at se hDe hee hle ⊢
            have tu : ∀ (b : Addr) (zs : List V), G6 b = some (.tup zs) → hideA D (upd G6 D (.lst (ts ++ [.ref e]))) b = some (.tup zs) := fun b zs h => by
              have b1 : b ≠ D := fun z => by rw [z, hDe] at h; cases h
              rw [hide_ne b1, upd_ne b1]
              exact h
            have lr : m < rows8.length := (List.getElem?_eq_some_iff.mp hr0).1
            refine ⟨_, hDe, ?_, same_up (s3.trans se) hD, ts ++ [.ref e], upd_same, by rw [List.length_append, lm]; rfl, ?_⟩
            · have h8 : rows8.length = 8 := rfl
              exact Nat.lt_of_le_of_lt (show ts.length ≤ 8 by omega) (by decide)
            · rw [List.take_add_one, List.getElem?_map, hr0]
              refine dpAll_snoc (dp_sameAll (hide_up fun b o b1 h => by rw [upd_ne b1]; exact se _ _ h) _ _ dp3) ?_
              exact dp_stQ (SqT.of (tu _ _ hee)) (SqT.of (tu _ _ hle))
          · rintro G3 ⟨s3, ts, hDG, lm, dp3⟩
            rw [List.take_of_length_le (by rw [List.length_map, hR.1]; exact Nat.le_refl _)] at dp3
            have dD : Dp K G3 (.ref D) due8D := .lst (SqL.of hDG) (dp_sameAll hide_sub _ _ dp3)
            refine ⟨8, rfl, by decide, by decide, fun D2 hD2 => lc_range (lo := 0) (n := 8) (fun m G => Same G3 G ∧ ∃ ts : List V, G D2 = some (.lst ts) ∧ ts.length = m ∧ DpAll K (hideA D2 G) ts ((rows8.map rowD).take m)) ⟨same_new hD2, [], upd_same, rfl, .nil⟩ ?_ ?_⟩
            · rintro m G hm ⟨s4, us, hDu, lm4, dp4⟩
              have hm : m < 8 := hm
              refine ⟨rfl, _, rfl, Nat.zero_le _, fun d hd => ⟨(by show 3 ≤ sizeLine; decide), fun e he => ?_⟩⟩
              have sd := same_new (o := .tup []) hd
              have se := same_new (o := .tup [.int (0 + (m : Nat)), .int 0, .ref d]) he
              have hde := se _ _ (upd_same : (upd G d (.tup [])) d = _)
              have s5 := sd.trans se
              have hee : (upd (upd G d (.tup [])) e (.tup [.int (0 + (m : Nat)), .int 0, .ref d])) e = some (.tup [.int (0 + (m : Nat)), .int 0, .ref d]) := upd_same
              have hDe := s5 _ _ hDu
              generalize upd (upd G d (.tup [])) e (.tup [.int (0 + (m : Nat)), .int 0, .ref d]) = G6 at s5 hDe hee hde ⊢
              have tu : ∀ (b : Addr) (zs : List V), G6 b = some (.tup zs) → hideA D2 (upd G6 D2 (.lst (us ++ [.ref e]))) b = some (.tup zs) := fun b zs h => by
                have b1 : b ≠ D2 := fun z => by rw [z, hDe] at h; cases h
                rw [hide_ne b1, upd_ne b1]
                exact h
              refine ⟨_, hDe, ?_, same_up (s4.trans s5) hD2, us ++ [.ref e], upd_same, by rw [List.length_append, lm4]; rfl, ?_⟩
              · exact Nat.lt_of_le_of_lt (show us.length ≤ 8 by omega) (by decide)
              · have hr : rows8[m]? = some (0 + ((m : Nat) : Int), 0, []) := by
                  rw [Int.zero_add]
                  show ((List.range 8).map fun i : Nat => ((i : Int), (0 : Int), ([] : List Int)))[m]? = _
                  rw [List.getElem?_map, List.getElem?_range hm]
                  rfl
                rw [List.take_add_one, List.getElem?_map, hr]
                refine dpAll_snoc (dp_sameAll (hide_up fun b o b1 h => by rw [upd_ne b1]; exact s5 _ _ h) _ _ dp4) ?_
                exact dp_row0 (tu _ _ hee) (tu _ _ hde)
            · rintro G ⟨s4, us, hDu, lm4, dp4⟩
              rw [List.take_of_length_le (show (List.map rowD rows8).length ≤ 8 by rw [List.length_map]; exact Nat.le_refl _)] at dp4
              have dD2 : Dp K G (.ref D2) due8D := .lst (SqL.of hDu) (dp_sameAll hide_sub _ _ dp4)
              refine ⟨due8D, due8D, dp_same s4 _ _ dD, dD2, shaped_due8, shaped_due8, false, by rw [eqv_due8]; rfl, iteF ?_⟩
              refine ⟨(by show 1 ≤ sizeLine; decide), fun a1 h1 => ⟨Nat.zero_le _, fun a2 h2 => ?_⟩⟩
              have i2 : (upd (upd G a1 (.lst [.int 7])) a2 (.lst [])) a2 = some (.lst []) := upd_same
              have i1 := same_new (o := .lst []) h2 _ _ (upd_same : (upd G a1 (.lst [.int 7])) a1 = _)
              generalize upd (upd G a1 (.lst [.int 7])) a2 (.lst []) = G5 at i1 i2 ⊢
              refine ⟨a2, a1, 0, [7], [], [], rfl, .inl i1, by decide, by decide, fun p hp => by cases List.mem_singleton.mp hp; decide, .inl i2, ⟨rfl, fun i y e => by simp at e⟩, by decide, fun e he => absurd he List.not_mem_nil, by decide, fun t7 G6 st7 s6 ht7 hSt7 => ?_⟩
              have hR7 := rows_of (ps := [7]) (rows := [(0, 0, [])]) rfl chk7 (by decide) (by decide) hSt7
              refine ⟨Nat.zero_le _, fun d hd => ?_⟩
              have sd := same_new (o := .tup []) hd
              have hdd : (upd G6 d (.tup [])) d = some (.tup []) := upd_same
              generalize upd G6 d (.tup []) = G7 at sd hdd ⊢
              intro x dx hx hdx hn
              refine ⟨x, dx, .int 0, .int 0, .ref d, rfl, upd_same, fun H' keep st => ⟨rfl, ?_⟩⟩
              have sk := mk_same hx hdx keep
              refine ⟨(by show 1 ≤ sizeLine; decide), fun u hu => ?_⟩
              have su := same_new (o := .tup [.ref x]) hu
              have s67 := sd.trans (sk.trans su)
              have hX : StX T.a_Stretch (upd H' u (.tup [.ref x])) x 0 0 [] := (show StX T.a_Stretch H' x 0 0 [] from ⟨d, st, sk _ _ hdd⟩).same su
              have gR : RowsV T.a_Stretch (upd H' u (.tup [.ref x])) [.ref x] [(0, 0, [])] := ⟨rfl, fun i y e => by
                match i, e with
                | 0, e => cases e; exact ⟨x, _, rfl, rfl, hX⟩⟩
              refine ⟨⟨t7, u, _, _, rfl, rfl, SqT.of (s67 _ _ ht7), SqT.of upd_same, rows_eq (hR7.same s67) gR⟩, fun G8 _ => ⟨true, rfl, iteT ?_⟩⟩
              refine ⟨(by show 2 ≤ sizeLine; decide), fun b1 h1 => ⟨(by show 2 ≤ sizeLine; decide), fun b2 h2 => ⟨(by show 2 ≤ sizeLine; decide), fun b3 h3 => ⟨(by show 1 ≤ sizeLine; decide), fun b4 h4 => ?_⟩⟩⟩⟩
              have r1 := same_new (o := .lst [.int 7, .int 9]) h1
              have r2 := same_new (o := .tup [.non, .int 3]) h2
              have r3 := same_new (o := .tup [.int 3, .ref b2]) h3
              have r4 := same_new (o := .lst [.ref b3]) h4
              have r34 := r3.trans r4
              have i1 := (r2.trans r34) _ _ upd_same
              have i2 := r34 _ _ upd_same
              have i3 := r4 _ _ upd_same
              have i4 := (upd_same : (upd (upd (upd (upd G8 b1 (.lst [.int 7, .int 9])) b2 (.tup [.non, .int 3])) b3 (.tup [.int 3, .ref b2])) b4 (.lst [.ref b3])) b4 = _)
              generalize upd (upd (upd (upd G8 b1 (.lst [.int 7, .int 9])) b2 (.tup [.non, .int 3])) b3 (.tup [.int 3, .ref b2])) b4 (.lst [.ref b3]) = G9 at i1 i2 i3 i4 ⊢
              clear r1 r2 r3 r4 r34 h1 h2 h3 h4
              refine ⟨b4, b1, 0, [7, 9], [.ref b3], es79, rfl, .inl i1, by decide, by decide, fun p hp => ?_, .inl i4, ⟨rfl, fun i y e => ?_⟩, by decide, ok79, by decide, fun t9 G10 st9 s9 ht9 hSt9 => ?_⟩
              · simp only [List.mem_cons, List.not_mem_nil, or_false] at hp
                rcases hp with rfl | rfl <;> decide
              · match i, e with
                | 0, e => cases e; exact ⟨b3, _, rfl, rfl, b2, i3, .inr i2⟩
              have hR9 := rows_of (ps := [7, 9]) (rows := [(0, 0, []), (0, 0, [])]) rfl chk79 (by decide) (by decide) hSt9
              refine ⟨Nat.zero_le _, fun d hd => ?_⟩
              have sd := same_new (o := .tup []) hd
              have hdd : (upd G10 d (.tup [])) d = some (.tup []) := upd_same
              generalize upd G10 d (.tup []) = G7 at sd hdd ⊢
              intro x dx hx hdx hn
              refine ⟨x, dx, .int 0, .int 0, .ref d, rfl, upd_same, fun H' keep st => ⟨rfl, ?_⟩⟩
              have sk := sd.trans (mk_same hx hdx keep)
              have hX : StX T.a_Stretch H' x 0 0 [] := ⟨d, st, mk_same hx hdx keep _ _ hdd⟩
              clear keep st
              refine ⟨Nat.zero_le _, fun d' hd' => ?_⟩
              have sd' := same_new (o := .tup []) hd'
              have hdd' : (upd H' d' (.tup [])) d' = some (.tup []) := upd_same
              generalize upd H' d' (.tup []) = G11 at sd' hdd' ⊢
              intro x' dx' hx' hdx' hn'
              refine ⟨x', dx', .int 0, .int 0, .ref d', rfl, upd_same, fun H'' keep st => ⟨rfl, ?_⟩⟩
              have sk' := mk_same hx' hdx' keep
              have hX' : StX T.a_Stretch H'' x' 0 0 [] := ⟨d', st, sk' _ _ hdd'⟩
              have hX := hX.same (sd'.trans sk')
              have sk := sk.trans (sd'.trans sk')
              refine ⟨(by show 2 ≤ sizeLine; decide), fun u hu => ?_⟩
              have su := same_new (o := .tup [.ref x, .ref x']) hu
              have s67 := sk.trans su
              have gR : RowsV T.a_Stretch (upd H'' u (.tup [.ref x, .ref x'])) [.ref x, .ref x'] [(0, 0, []), (0, 0, [])] := ⟨rfl, fun i y e => by
                match i, e with
                | 0, e => cases e; exact ⟨x, _, rfl, rfl, hX.same su⟩
                | 1, e => cases e; exact ⟨x', _, rfl, rfl, hX'.same su⟩⟩
              exact ⟨⟨t9, u, _, _, rfl, rfl, SqT.of (s67 _ _ ht9), SqT.of upd_same, rows_eq (hR9.same s67) gR⟩, fun G12 _ => k _⟩


end
theorem all_mk {l : PySem.W.OpenLaw} {w : World} {K : PySem.W.Frag} {h : Heap} {mg : Str → Option Value} {fa : Addr} (X : K.In h) (G : h.Ns mainGlobals mg) (hfa : mg "law" = some (.ref fa)) (tabs : ∀ x ∈ ([] : List Str), TabOf K mg h x)
    {f_is_whole : Addr} {od_is_whole an_is_whole : Option Addr} {sl_is_whole : Array (Option Value)} {oc_is_whole kV_is_whole dc_is_whole pm_is_whole cd_is_whole ct_is_whole : Value}
    {f_is_from : Addr} {od_is_from an_is_from : Option Addr} {sl_is_from : Array (Option Value)} {oc_is_from kV_is_from dc_is_from pm_is_from cd_is_from ct_is_from : Value}
    {f_is_between : Addr} {od_is_between an_is_between : Option Addr} {sl_is_between : Array (Option Value)} {oc_is_between kV_is_between dc_is_between pm_is_between cd_is_between ct_is_between : Value}
    {f_need_from : Addr} {od_need_from an_need_from : Option Addr} {sl_need_from : Array (Option Value)} {oc_need_from kV_need_from dc_need_from pm_need_from cd_need_from ct_need_from : Value}
    {f_is_period : Addr} {od_is_period an_is_period : Option Addr} {sl_is_period : Array (Option Value)} {oc_is_period kV_is_period dc_is_period pm_is_period cd_is_period ct_is_period : Value}
    {f_need_items : Addr} {od_need_items an_need_items : Option Addr} {sl_need_items : Array (Option Value)} {oc_need_items kV_need_items dc_need_items pm_need_items cd_need_items ct_need_items : Value}
    {f_narrowest : Addr} {od_narrowest an_narrowest : Option Addr} {sl_narrowest : Array (Option Value)} {oc_narrowest kV_narrowest dc_narrowest pm_narrowest cd_narrowest ct_narrowest : Value}
    {f_stretch_of : Addr} {od_stretch_of an_stretch_of : Option Addr} {sl_stretch_of : Array (Option Value)} {oc_stretch_of kV_stretch_of dc_stretch_of pm_stretch_of cd_stretch_of ct_stretch_of : Value}
    {f_is_pair : Addr} {od_is_pair an_is_pair : Option Addr} {sl_is_pair : Array (Option Value)} {oc_is_pair kV_is_pair dc_is_pair pm_is_pair cd_is_pair ct_is_pair : Value}
    {f_is_entry : Addr} {od_is_entry an_is_entry : Option Addr} {sl_is_entry : Array (Option Value)} {oc_is_entry kV_is_entry dc_is_entry pm_is_entry cd_is_entry ct_is_entry : Value}
    {f_need_entries : Addr} {od_need_entries an_need_entries : Option Addr} {sl_need_entries : Array (Option Value)} {oc_need_entries kV_need_entries dc_need_entries pm_need_entries cd_need_entries ct_need_entries : Value}
    {f_offsets_at : Addr} {od_offsets_at an_offsets_at : Option Addr} {sl_offsets_at : Array (Option Value)} {oc_offsets_at kV_offsets_at dc_offsets_at pm_offsets_at cd_offsets_at ct_offsets_at : Value}
    {f_are_periods : Addr} {od_are_periods an_are_periods : Option Addr} {sl_are_periods : Array (Option Value)} {oc_are_periods kV_are_periods dc_are_periods pm_are_periods cd_are_periods ct_are_periods : Value}
    {f_plays : Addr} {od_plays an_plays : Option Addr} {sl_plays : Array (Option Value)} {oc_plays kV_plays dc_plays pm_plays cd_plays ct_plays : Value}
    {f_pen : Addr} {od_pen an_pen : Option Addr} {sl_pen : Array (Option Value)} {oc_pen kV_pen dc_pen pm_pen cd_pen ct_pen : Value}
    {f_draw : Addr} {od_draw an_draw : Option Addr} {sl_draw : Array (Option Value)} {oc_draw kV_draw dc_draw pm_draw cd_draw ct_draw : Value}
    {f_pick : Addr} {od_pick an_pick : Option Addr} {sl_pick : Array (Option Value)} {oc_pick kV_pick dc_pick pm_pick cd_pick ct_pick : Value}
    {f_wheels : Addr} {od_wheels an_wheels : Option Addr} {sl_wheels : Array (Option Value)} {oc_wheels kV_wheels dc_wheels pm_wheels cd_wheels ct_wheels : Value}
    {f_entries : Addr} {od_entries an_entries : Option Addr} {sl_entries : Array (Option Value)} {oc_entries kV_entries dc_entries pm_entries cd_entries ct_entries : Value}
    {f_least : Addr} {od_least an_least : Option Addr} {sl_least : Array (Option Value)} {oc_least kV_least dc_least pm_least cd_least ct_least : Value}
    {f_due : Addr} {od_due an_due : Option Addr} {sl_due : Array (Option Value)} {oc_due kV_due dc_due pm_due cd_due ct_due : Value}
    {f_right : Addr} {od_right an_right : Option Addr} {sl_right : Array (Option Value)} {oc_right kV_right dc_right pm_right cd_right ct_right : Value}
    {f_law : Addr} {od_law an_law : Option Addr} {sl_law : Array (Option Value)} {oc_law kV_law dc_law pm_law cd_law ct_law : Value}
    {f_Stretch_init : Addr} {od_Stretch_init an_Stretch_init : Option Addr} {sl_Stretch_init : Array (Option Value)} {oc_Stretch_init kV_Stretch_init dc_Stretch_init pm_Stretch_init cd_Stretch_init ct_Stretch_init : Value}
    {f_Stretch_eq : Addr} {od_Stretch_eq an_Stretch_eq : Option Addr} {sl_Stretch_eq : Array (Option Value)} {oc_Stretch_eq kV_Stretch_eq dc_Stretch_eq pm_Stretch_eq cd_Stretch_eq ct_Stretch_eq : Value}
    {C_Stretch : Addr} {tM tI tB tW : Tok}
    (a_is_whole : PySem.W.nsIn K mainGlobals "is_whole" = some (some (.ref f_is_whole)))
    (l_is_whole : K.lookup f_is_whole = some ⟨oc_is_whole, od_is_whole, .func (PySem.W.fnOf "is_whole" "is_whole" (defArgs s_is_whole) (defBody s_is_whole) (defScope s_is_whole) .none kV_is_whole dc_is_whole pm_is_whole an_is_whole cd_is_whole ct_is_whole), sl_is_whole⟩)
    (c_is_whole : PySem.W.codeIn K cd_is_whole "is_whole" = true)
    (k_is_whole : PySem.W.keepIn K (.ref f_is_whole) = true)
    (a_is_from : PySem.W.nsIn K mainGlobals "is_from" = some (some (.ref f_is_from)))
    (l_is_from : K.lookup f_is_from = some ⟨oc_is_from, od_is_from, .func (PySem.W.fnOf "is_from" "is_from" (defArgs s_is_from) (defBody s_is_from) (defScope s_is_from) .none kV_is_from dc_is_from pm_is_from an_is_from cd_is_from ct_is_from), sl_is_from⟩)
    (c_is_from : PySem.W.codeIn K cd_is_from "is_from" = true)
    (k_is_from : PySem.W.keepIn K (.ref f_is_from) = true)
    (a_is_between : PySem.W.nsIn K mainGlobals "is_between" = some (some (.ref f_is_between)))
    (l_is_between : K.lookup f_is_between = some ⟨oc_is_between, od_is_between, .func (PySem.W.fnOf "is_between" "is_between" (defArgs s_is_between) (defBody s_is_between) (defScope s_is_between) .none kV_is_between dc_is_between pm_is_between an_is_between cd_is_between ct_is_between), sl_is_between⟩)
    (c_is_between : PySem.W.codeIn K cd_is_between "is_between" = true)
    (k_is_between : PySem.W.keepIn K (.ref f_is_between) = true)
    (a_need_from : PySem.W.nsIn K mainGlobals "need_from" = some (some (.ref f_need_from)))
    (l_need_from : K.lookup f_need_from = some ⟨oc_need_from, od_need_from, .func (PySem.W.fnOf "need_from" "need_from" (defArgs s_need_from) (defBody s_need_from) (defScope s_need_from) .none kV_need_from dc_need_from pm_need_from an_need_from cd_need_from ct_need_from), sl_need_from⟩)
    (c_need_from : PySem.W.codeIn K cd_need_from "need_from" = true)
    (k_need_from : PySem.W.keepIn K (.ref f_need_from) = true)
    (a_is_period : PySem.W.nsIn K mainGlobals "is_period" = some (some (.ref f_is_period)))
    (l_is_period : K.lookup f_is_period = some ⟨oc_is_period, od_is_period, .func (PySem.W.fnOf "is_period" "is_period" (defArgs s_is_period) (defBody s_is_period) (defScope s_is_period) .none kV_is_period dc_is_period pm_is_period an_is_period cd_is_period ct_is_period), sl_is_period⟩)
    (c_is_period : PySem.W.codeIn K cd_is_period "is_period" = true)
    (k_is_period : PySem.W.keepIn K (.ref f_is_period) = true)
    (a_need_items : PySem.W.nsIn K mainGlobals "need_items" = some (some (.ref f_need_items)))
    (l_need_items : K.lookup f_need_items = some ⟨oc_need_items, od_need_items, .func (PySem.W.fnOf "need_items" "need_items" (defArgs s_need_items) (defBody s_need_items) (defScope s_need_items) .none kV_need_items dc_need_items pm_need_items an_need_items cd_need_items ct_need_items), sl_need_items⟩)
    (c_need_items : PySem.W.codeIn K cd_need_items "need_items" = true)
    (k_need_items : PySem.W.keepIn K (.ref f_need_items) = true)
    (a_narrowest : PySem.W.nsIn K mainGlobals "narrowest" = some (some (.ref f_narrowest)))
    (l_narrowest : K.lookup f_narrowest = some ⟨oc_narrowest, od_narrowest, .func (PySem.W.fnOf "narrowest" "narrowest" (defArgs s_narrowest) (defBody s_narrowest) (defScope s_narrowest) .none kV_narrowest dc_narrowest pm_narrowest an_narrowest cd_narrowest ct_narrowest), sl_narrowest⟩)
    (c_narrowest : PySem.W.codeIn K cd_narrowest "narrowest" = true)
    (k_narrowest : PySem.W.keepIn K (.ref f_narrowest) = true)
    (a_stretch_of : PySem.W.nsIn K mainGlobals "stretch_of" = some (some (.ref f_stretch_of)))
    (l_stretch_of : K.lookup f_stretch_of = some ⟨oc_stretch_of, od_stretch_of, .func (PySem.W.fnOf "stretch_of" "stretch_of" (defArgs s_stretch_of) (defBody s_stretch_of) (defScope s_stretch_of) .none kV_stretch_of dc_stretch_of pm_stretch_of an_stretch_of cd_stretch_of ct_stretch_of), sl_stretch_of⟩)
    (c_stretch_of : PySem.W.codeIn K cd_stretch_of "stretch_of" = true)
    (k_stretch_of : PySem.W.keepIn K (.ref f_stretch_of) = true)
    (a_is_pair : PySem.W.nsIn K mainGlobals "is_pair" = some (some (.ref f_is_pair)))
    (l_is_pair : K.lookup f_is_pair = some ⟨oc_is_pair, od_is_pair, .func (PySem.W.fnOf "is_pair" "is_pair" (defArgs s_is_pair) (defBody s_is_pair) (defScope s_is_pair) .none kV_is_pair dc_is_pair pm_is_pair an_is_pair cd_is_pair ct_is_pair), sl_is_pair⟩)
    (c_is_pair : PySem.W.codeIn K cd_is_pair "is_pair" = true)
    (k_is_pair : PySem.W.keepIn K (.ref f_is_pair) = true)
    (a_is_entry : PySem.W.nsIn K mainGlobals "is_entry" = some (some (.ref f_is_entry)))
    (l_is_entry : K.lookup f_is_entry = some ⟨oc_is_entry, od_is_entry, .func (PySem.W.fnOf "is_entry" "is_entry" (defArgs s_is_entry) (defBody s_is_entry) (defScope s_is_entry) .none kV_is_entry dc_is_entry pm_is_entry an_is_entry cd_is_entry ct_is_entry), sl_is_entry⟩)
    (c_is_entry : PySem.W.codeIn K cd_is_entry "is_entry" = true)
    (k_is_entry : PySem.W.keepIn K (.ref f_is_entry) = true)
    (a_need_entries : PySem.W.nsIn K mainGlobals "need_entries" = some (some (.ref f_need_entries)))
    (l_need_entries : K.lookup f_need_entries = some ⟨oc_need_entries, od_need_entries, .func (PySem.W.fnOf "need_entries" "need_entries" (defArgs s_need_entries) (defBody s_need_entries) (defScope s_need_entries) .none kV_need_entries dc_need_entries pm_need_entries an_need_entries cd_need_entries ct_need_entries), sl_need_entries⟩)
    (c_need_entries : PySem.W.codeIn K cd_need_entries "need_entries" = true)
    (k_need_entries : PySem.W.keepIn K (.ref f_need_entries) = true)
    (a_offsets_at : PySem.W.nsIn K mainGlobals "offsets_at" = some (some (.ref f_offsets_at)))
    (l_offsets_at : K.lookup f_offsets_at = some ⟨oc_offsets_at, od_offsets_at, .func (PySem.W.fnOf "offsets_at" "offsets_at" (defArgs s_offsets_at) (defBody s_offsets_at) (defScope s_offsets_at) .none kV_offsets_at dc_offsets_at pm_offsets_at an_offsets_at cd_offsets_at ct_offsets_at), sl_offsets_at⟩)
    (c_offsets_at : PySem.W.codeIn K cd_offsets_at "offsets_at" = true)
    (k_offsets_at : PySem.W.keepIn K (.ref f_offsets_at) = true)
    (a_are_periods : PySem.W.nsIn K mainGlobals "are_periods" = some (some (.ref f_are_periods)))
    (l_are_periods : K.lookup f_are_periods = some ⟨oc_are_periods, od_are_periods, .func (PySem.W.fnOf "are_periods" "are_periods" (defArgs s_are_periods) (defBody s_are_periods) (defScope s_are_periods) .none kV_are_periods dc_are_periods pm_are_periods an_are_periods cd_are_periods ct_are_periods), sl_are_periods⟩)
    (c_are_periods : PySem.W.codeIn K cd_are_periods "are_periods" = true)
    (k_are_periods : PySem.W.keepIn K (.ref f_are_periods) = true)
    (a_plays : PySem.W.nsIn K mainGlobals "plays" = some (some (.ref f_plays)))
    (l_plays : K.lookup f_plays = some ⟨oc_plays, od_plays, .func (PySem.W.fnOf "plays" "plays" (defArgs s_plays) (defBody s_plays) (defScope s_plays) .none kV_plays dc_plays pm_plays an_plays cd_plays ct_plays), sl_plays⟩)
    (c_plays : PySem.W.codeIn K cd_plays "plays" = true)
    (k_plays : PySem.W.keepIn K (.ref f_plays) = true)
    (a_pen : PySem.W.nsIn K mainGlobals "_law_pen" = some (some (.ref f_pen)))
    (l_pen : K.lookup f_pen = some ⟨oc_pen, od_pen, .func (PySem.W.fnOf "_law_pen" "_law_pen" (defArgs s_pen) (defBody s_pen) (defScope s_pen) .none kV_pen dc_pen pm_pen an_pen cd_pen ct_pen), sl_pen⟩)
    (c_pen : PySem.W.codeIn K cd_pen "_law_pen" = true)
    (k_pen : PySem.W.keepIn K (.ref f_pen) = true)
    (a_draw : PySem.W.nsIn K mainGlobals "_law_draw" = some (some (.ref f_draw)))
    (l_draw : K.lookup f_draw = some ⟨oc_draw, od_draw, .func (PySem.W.fnOf "_law_draw" "_law_draw" (defArgs s_draw) (defBody s_draw) (defScope s_draw) .none kV_draw dc_draw pm_draw an_draw cd_draw ct_draw), sl_draw⟩)
    (c_draw : PySem.W.codeIn K cd_draw "_law_draw" = true)
    (k_draw : PySem.W.keepIn K (.ref f_draw) = true)
    (a_pick : PySem.W.nsIn K mainGlobals "_law_pick" = some (some (.ref f_pick)))
    (l_pick : K.lookup f_pick = some ⟨oc_pick, od_pick, .func (PySem.W.fnOf "_law_pick" "_law_pick" (defArgs s_pick) (defBody s_pick) (defScope s_pick) .none kV_pick dc_pick pm_pick an_pick cd_pick ct_pick), sl_pick⟩)
    (c_pick : PySem.W.codeIn K cd_pick "_law_pick" = true)
    (k_pick : PySem.W.keepIn K (.ref f_pick) = true)
    (a_wheels : PySem.W.nsIn K mainGlobals "_law_wheels" = some (some (.ref f_wheels)))
    (l_wheels : K.lookup f_wheels = some ⟨oc_wheels, od_wheels, .func (PySem.W.fnOf "_law_wheels" "_law_wheels" (defArgs s_wheels) (defBody s_wheels) (defScope s_wheels) .none kV_wheels dc_wheels pm_wheels an_wheels cd_wheels ct_wheels), sl_wheels⟩)
    (c_wheels : PySem.W.codeIn K cd_wheels "_law_wheels" = true)
    (k_wheels : PySem.W.keepIn K (.ref f_wheels) = true)
    (a_entries : PySem.W.nsIn K mainGlobals "_law_entries" = some (some (.ref f_entries)))
    (l_entries : K.lookup f_entries = some ⟨oc_entries, od_entries, .func (PySem.W.fnOf "_law_entries" "_law_entries" (defArgs s_entries) (defBody s_entries) (defScope s_entries) .none kV_entries dc_entries pm_entries an_entries cd_entries ct_entries), sl_entries⟩)
    (c_entries : PySem.W.codeIn K cd_entries "_law_entries" = true)
    (k_entries : PySem.W.keepIn K (.ref f_entries) = true)
    (a_least : PySem.W.nsIn K mainGlobals "_law_least" = some (some (.ref f_least)))
    (l_least : K.lookup f_least = some ⟨oc_least, od_least, .func (PySem.W.fnOf "_law_least" "_law_least" (defArgs s_least) (defBody s_least) (defScope s_least) .none kV_least dc_least pm_least an_least cd_least ct_least), sl_least⟩)
    (c_least : PySem.W.codeIn K cd_least "_law_least" = true)
    (k_least : PySem.W.keepIn K (.ref f_least) = true)
    (a_due : PySem.W.nsIn K mainGlobals "_law_due" = some (some (.ref f_due)))
    (l_due : K.lookup f_due = some ⟨oc_due, od_due, .func (PySem.W.fnOf "_law_due" "_law_due" (defArgs s_due) (defBody s_due) (defScope s_due) .none kV_due dc_due pm_due an_due cd_due ct_due), sl_due⟩)
    (c_due : PySem.W.codeIn K cd_due "_law_due" = true)
    (k_due : PySem.W.keepIn K (.ref f_due) = true)
    (a_right : PySem.W.nsIn K mainGlobals "_law_right" = some (some (.ref f_right)))
    (l_right : K.lookup f_right = some ⟨oc_right, od_right, .func (PySem.W.fnOf "_law_right" "_law_right" (defArgs s_right) (defBody s_right) (defScope s_right) .none kV_right dc_right pm_right an_right cd_right ct_right), sl_right⟩)
    (c_right : PySem.W.codeIn K cd_right "_law_right" = true)
    (k_right : PySem.W.keepIn K (.ref f_right) = true)
    (a_law : PySem.W.nsIn K mainGlobals "law" = some (some (.ref f_law)))
    (l_law : K.lookup f_law = some ⟨oc_law, od_law, .func (PySem.W.fnOf "law" "law" (defArgs s_law) (defBody s_law) (defScope s_law) .none kV_law dc_law pm_law an_law cd_law ct_law), sl_law⟩)
    (c_law : PySem.W.codeIn K cd_law "law" = true)
    (k_law : PySem.W.keepIn K (.ref f_law) = true)
    (a_Stretch_init : PySem.W.findIn K (.ref C_Stretch) "__init__" = some (some (.ref f_Stretch_init)))
    (l_Stretch_init : K.lookup f_Stretch_init = some ⟨oc_Stretch_init, od_Stretch_init, .func (PySem.W.fnOf "__init__" "Stretch.__init__" (defArgs s_Stretch_init) (defBody s_Stretch_init) (defScope s_Stretch_init) .none kV_Stretch_init dc_Stretch_init pm_Stretch_init an_Stretch_init cd_Stretch_init ct_Stretch_init), sl_Stretch_init⟩)
    (c_Stretch_init : PySem.W.codeIn K cd_Stretch_init "Stretch.__init__" = true)
    (k_Stretch_init : PySem.W.keepIn K (.ref f_Stretch_init) = true)
    (a_Stretch_eq : PySem.W.findIn K (.ref C_Stretch) "__eq__" = some (some (.ref f_Stretch_eq)))
    (l_Stretch_eq : K.lookup f_Stretch_eq = some ⟨oc_Stretch_eq, od_Stretch_eq, .func (PySem.W.fnOf "__eq__" "Stretch.__eq__" (defArgs s_Stretch_eq) (defBody s_Stretch_eq) (defScope s_Stretch_eq) .none kV_Stretch_eq dc_Stretch_eq pm_Stretch_eq an_Stretch_eq cd_Stretch_eq ct_Stretch_eq), sl_Stretch_eq⟩)
    (c_Stretch_eq : PySem.W.codeIn K cd_Stretch_eq "Stretch.__eq__" = true)
    (k_Stretch_eq : PySem.W.keepIn K (.ref f_Stretch_eq) = true)
    (z_ValueError : PySem.W.nsIn K mainGlobals "ValueError" = some none)
    (z_abs : PySem.W.nsIn K mainGlobals "abs" = some none)
    (z_all : PySem.W.nsIn K mainGlobals "all" = some none)
    (z_bool : PySem.W.nsIn K mainGlobals "bool" = some none)
    (z_enumerate : PySem.W.nsIn K mainGlobals "enumerate" = some none)
    (z_int : PySem.W.nsIn K mainGlobals "int" = some none)
    (z_isinstance : PySem.W.nsIn K mainGlobals "isinstance" = some none)
    (z_len : PySem.W.nsIn K mainGlobals "len" = some none)
    (z_list : PySem.W.nsIn K mainGlobals "list" = some none)
    (z_min : PySem.W.nsIn K mainGlobals "min" = some none)
    (z_range : PySem.W.nsIn K mainGlobals "range" = some none)
    (z_repr : PySem.W.nsIn K mainGlobals "repr" = some none)
    (z_sorted : PySem.W.nsIn K mainGlobals "sorted" = some none)
    (z_tuple : PySem.W.nsIn K mainGlobals "tuple" = some none)
    (z_zip : PySem.W.nsIn K mainGlobals "zip" = some none)
    (x_Stretch : PySem.W.nsIn K mainGlobals "Stretch" = some (some (.ref C_Stretch)))
    (x_MP : PySem.W.nsIn K mainGlobals "MOST_PERIOD" = some (some (.int 1000000000000 tM)))
    (x_MI : PySem.W.nsIn K mainGlobals "MOST_ITEMS" = some (some (.int 60 tI)))
    (y_cls : Cls K C_Stretch)
    (y_m1 : PySem.W.makesIn K C_Stretch = true)
    (y_m3 : PySem.W.isFn K (.ref f_Stretch_init) = true)
    (y_m4 : PySem.W.keepIn K (.ref C_Stretch) = true)
    (x_ha : PySem.W.findIn K (.ref C_Stretch) "__class__" = some (some (.builtin "object.__class__")))
    (x_hn : PySem.W.specialIn K (.builtin "object.__class__") "__get__" = some (some (.builtin "getset_descriptor.__get__")))
    (x_ht : PySem.W.takesIn K (.builtin "object.__class__") = some true)
    (x_hm : PySem.W.mroIn K C_Stretch (.type "object") = some true)
    (y_kk : PySem.W.kitOne K (.ref C_Stretch) (.ref C_Stretch) = some true)
    (y_n1 : NoAttr K C_Stretch "begin")
    (y_n2 : NoAttr K C_Stretch "width")
    (y_n3 : NoAttr K C_Stretch "left")
    (y_ne : PySem.W.findIn K (.ref C_Stretch) "__ne__" = some (some (.builtin "object.__ne__")))
    (y_bo : PySem.W.findIn K (.ref C_Stretch) "__bool__" = some Option.none)
    (y_le : PySem.W.findIn K (.ref C_Stretch) "__len__" = some Option.none)
    (y_f2 : PySem.W.isFn K (.ref f_Stretch_eq) = true)
    (x_BV : PySem.W.nsIn K mainGlobals "BEYOND_VALUES" = some (some (.int 1000000000000000000000000000000 tB)))
    (x_MW : PySem.W.nsIn K mainGlobals "MOST_WHEELS" = some (some (.int 8 tW))) :
    LawG l w K 8 mg fa h := by
  have e := hfa.symm.trans (PySem.W.mg_of X G a_law)
  cases e
  let T : Txt K mg := { a_is_whole := f_is_whole, fd_is_whole := _, F_is_whole := fun_mk (st := s_is_whole) l_is_whole c_is_whole k_is_whole, m_is_whole := PySem.W.mg_of X G a_is_whole, a_is_from := f_is_from, fd_is_from := _, F_is_from := fun_mk (st := s_is_from) l_is_from c_is_from k_is_from, m_is_from := PySem.W.mg_of X G a_is_from, a_is_between := f_is_between, fd_is_between := _, F_is_between := fun_mk (st := s_is_between) l_is_between c_is_between k_is_between, m_is_between := PySem.W.mg_of X G a_is_between, a_need_from := f_need_from, fd_need_from := _, F_need_from := fun_mk (st := s_need_from) l_need_from c_need_from k_need_from, m_need_from := PySem.W.mg_of X G a_need_from, a_is_period := f_is_period, fd_is_period := _, F_is_period := fun_mk (st := s_is_period) l_is_period c_is_period k_is_period, m_is_period := PySem.W.mg_of X G a_is_period, a_need_items := f_need_items, fd_need_items := _, F_need_items := fun_mk (st := s_need_items) l_need_items c_need_items k_need_items, m_need_items := PySem.W.mg_of X G a_need_items, a_narrowest := f_narrowest, fd_narrowest := _, F_narrowest := fun_mk (st := s_narrowest) l_narrowest c_narrowest k_narrowest, m_narrowest := PySem.W.mg_of X G a_narrowest, a_stretch_of := f_stretch_of, fd_stretch_of := _, F_stretch_of := fun_mk (st := s_stretch_of) l_stretch_of c_stretch_of k_stretch_of, m_stretch_of := PySem.W.mg_of X G a_stretch_of, a_is_pair := f_is_pair, fd_is_pair := _, F_is_pair := fun_mk (st := s_is_pair) l_is_pair c_is_pair k_is_pair, m_is_pair := PySem.W.mg_of X G a_is_pair, a_is_entry := f_is_entry, fd_is_entry := _, F_is_entry := fun_mk (st := s_is_entry) l_is_entry c_is_entry k_is_entry, m_is_entry := PySem.W.mg_of X G a_is_entry, a_need_entries := f_need_entries, fd_need_entries := _, F_need_entries := fun_mk (st := s_need_entries) l_need_entries c_need_entries k_need_entries, m_need_entries := PySem.W.mg_of X G a_need_entries, a_offsets_at := f_offsets_at, fd_offsets_at := _, F_offsets_at := fun_mk (st := s_offsets_at) l_offsets_at c_offsets_at k_offsets_at, m_offsets_at := PySem.W.mg_of X G a_offsets_at, a_are_periods := f_are_periods, fd_are_periods := _, F_are_periods := fun_mk (st := s_are_periods) l_are_periods c_are_periods k_are_periods, m_are_periods := PySem.W.mg_of X G a_are_periods, a_plays := f_plays, fd_plays := _, F_plays := fun_mk (st := s_plays) l_plays c_plays k_plays, m_plays := PySem.W.mg_of X G a_plays, a_pen := f_pen, fd_pen := _, F_pen := fun_mk (st := s_pen) l_pen c_pen k_pen, m_pen := PySem.W.mg_of X G a_pen, a_draw := f_draw, fd_draw := _, F_draw := fun_mk (st := s_draw) l_draw c_draw k_draw, m_draw := PySem.W.mg_of X G a_draw, a_pick := f_pick, fd_pick := _, F_pick := fun_mk (st := s_pick) l_pick c_pick k_pick, m_pick := PySem.W.mg_of X G a_pick, a_wheels := f_wheels, fd_wheels := _, F_wheels := fun_mk (st := s_wheels) l_wheels c_wheels k_wheels, m_wheels := PySem.W.mg_of X G a_wheels, a_entries := f_entries, fd_entries := _, F_entries := fun_mk (st := s_entries) l_entries c_entries k_entries, m_entries := PySem.W.mg_of X G a_entries, a_least := f_least, fd_least := _, F_least := fun_mk (st := s_least) l_least c_least k_least, m_least := PySem.W.mg_of X G a_least, a_due := f_due, fd_due := _, F_due := fun_mk (st := s_due) l_due c_due k_due, m_due := PySem.W.mg_of X G a_due, a_right := f_right, fd_right := _, F_right := fun_mk (st := s_right) l_right c_right k_right, m_right := PySem.W.mg_of X G a_right, a_law := fa, fd_law := _, F_law := fun_mk (st := s_law) l_law c_law k_law, m_law := PySem.W.mg_of X G a_law, a_Stretch_init := f_Stretch_init, fd_Stretch_init := _, F_Stretch_init := fun_mk (st := s_Stretch_init) l_Stretch_init c_Stretch_init k_Stretch_init, a_Stretch_eq := f_Stretch_eq, fd_Stretch_eq := _, F_Stretch_eq := fun_mk (st := s_Stretch_eq) l_Stretch_eq c_Stretch_eq k_Stretch_eq, n_ValueError := PySem.W.mg_none_of X G z_ValueError, n_abs := PySem.W.mg_none_of X G z_abs, n_all := PySem.W.mg_none_of X G z_all, n_bool := PySem.W.mg_none_of X G z_bool, n_enumerate := PySem.W.mg_none_of X G z_enumerate, n_int := PySem.W.mg_none_of X G z_int, n_isinstance := PySem.W.mg_none_of X G z_isinstance, n_len := PySem.W.mg_none_of X G z_len, n_list := PySem.W.mg_none_of X G z_list, n_min := PySem.W.mg_none_of X G z_min, n_range := PySem.W.mg_none_of X G z_range, n_repr := PySem.W.mg_none_of X G z_repr, n_sorted := PySem.W.mg_none_of X G z_sorted, n_tuple := PySem.W.mg_none_of X G z_tuple, n_zip := PySem.W.mg_none_of X G z_zip, u_MP := .int 1000000000000 tM, m_MP := PySem.W.mg_of X G x_MP, r_MP := ⟨_, rfl⟩, u_MI := .int 60 tI, m_MI := PySem.W.mg_of X G x_MI, r_MI := ⟨_, rfl⟩, a_Stretch := C_Stretch, m_Stretch := PySem.W.mg_of X G x_Stretch, cls := y_cls, mks := ⟨y_m1, a_Stretch_init, y_m3, y_m4⟩, ki := fun H a dx fs e => .base (.ins e y_cls x_ha x_hn x_ht x_hm), kk := y_kk, na := fun y hy => by simp only [List.mem_cons, List.not_mem_nil, or_false] at hy; rcases hy with rfl | rfl | rfl; exact y_n1; exact y_n2; exact y_n3, fi_eq := a_Stretch_eq, fi_ne := y_ne, fi_bool := y_bo, fi_len := y_le, mro_o := x_hm, fn_eq := y_f2, u_BV := .int 1000000000000000000000000000000 tB, m_BV := PySem.W.mg_of X G x_BV, r_BV := ⟨_, rfl⟩, u_MW := .int 8 tW, m_MW := PySem.W.mg_of X G x_MW, r_MW := ⟨_, rfl⟩ }
  refine ⟨[], spLaw K, fun p hp => absurd hp List.not_mem_nil, fun p hp => absurd hp List.not_mem_nil, fun p hp => absurd hp List.not_mem_nil, fun H a ns hl hb tt hS => ⟨a, ns, rfl, hS, hl, fun _ => rfl⟩, fun base KB NB TBs => ok_law T⟩
end My
open PySem PySem.W PyProof.Rows in
set_option maxRecDepth 100000 in
set_option maxHeartbeats 0 in
theorem PySem.Challenge.cw_wheelreach_k87_plays_told_back_from_logs_holds : PySem.Challenge.rw_wheelreach_k87_plays_told_back_from_logs.Holds := by
  w_on; o_law; k_head; (case hw => w_witness2)
  k_fill
  refine My.walkG (l := PySem.Challenge.rw_wheelreach_k87_plays_told_back_from_logs) (k := 8) [] (by decide +kernel) rfl rfl ⟨rfl, by decide, by decide⟩ (fun w h Y => PySem.W.kIn_of Y) ?F
  case F =>
    intro w mg fa h KX G hmg tabs
    refine' My.all_mk KX G hmg tabs ?a_is_whole ?l_is_whole ?c_is_whole ?k_is_whole ?a_is_from ?l_is_from ?c_is_from ?k_is_from ?a_is_between ?l_is_between ?c_is_between ?k_is_between ?a_need_from ?l_need_from ?c_need_from ?k_need_from ?a_is_period ?l_is_period ?c_is_period ?k_is_period ?a_need_items ?l_need_items ?c_need_items ?k_need_items ?a_narrowest ?l_narrowest ?c_narrowest ?k_narrowest ?a_stretch_of ?l_stretch_of ?c_stretch_of ?k_stretch_of ?a_is_pair ?l_is_pair ?c_is_pair ?k_is_pair ?a_is_entry ?l_is_entry ?c_is_entry ?k_is_entry ?a_need_entries ?l_need_entries ?c_need_entries ?k_need_entries ?a_offsets_at ?l_offsets_at ?c_offsets_at ?k_offsets_at ?a_are_periods ?l_are_periods ?c_are_periods ?k_are_periods ?a_plays ?l_plays ?c_plays ?k_plays ?a_pen ?l_pen ?c_pen ?k_pen ?a_draw ?l_draw ?c_draw ?k_draw ?a_pick ?l_pick ?c_pick ?k_pick ?a_wheels ?l_wheels ?c_wheels ?k_wheels ?a_entries ?l_entries ?c_entries ?k_entries ?a_least ?l_least ?c_least ?k_least ?a_due ?l_due ?c_due ?k_due ?a_right ?l_right ?c_right ?k_right ?a_law ?l_law ?c_law ?k_law ?a_Stretch_init ?l_Stretch_init ?c_Stretch_init ?k_Stretch_init ?a_Stretch_eq ?l_Stretch_eq ?c_Stretch_eq ?k_Stretch_eq ?z_ValueError ?z_abs ?z_all ?z_bool ?z_enumerate ?z_int ?z_isinstance ?z_len ?z_list ?z_min ?z_range ?z_repr ?z_sorted ?z_tuple ?z_zip ?x_Stretch ?x_MP ?x_MI ?y_cls ?y_m1 ?y_m3 ?y_m4 ?x_ha ?x_hn ?x_ht ?x_hm ?y_kk ?y_n1 ?y_n2 ?y_n3 ?y_ne ?y_bo ?y_le ?y_f2 ?x_BV ?x_MW
    (case x_Stretch => first | k_is | rfl | decide +kernel)
    (case x_MP => first | k_is | rfl | decide +kernel)
    (case x_MI => first | k_is | rfl | decide +kernel)
    (case x_BV => first | k_is | rfl | decide +kernel)
    (case x_MW => first | k_is | rfl | decide +kernel)
    (case a_is_whole => k_is)
    (case l_is_whole => k_is)
    (case c_is_whole => k_is)
    (case k_is_whole => k_is)
    (case a_is_from => k_is)
    (case l_is_from => k_is)
    (case c_is_from => k_is)
    (case k_is_from => k_is)
    (case a_is_between => k_is)
    (case l_is_between => k_is)
    (case c_is_between => k_is)
    (case k_is_between => k_is)
    (case a_need_from => k_is)
    (case l_need_from => k_is)
    (case c_need_from => k_is)
    (case k_need_from => k_is)
    (case a_is_period => k_is)
    (case l_is_period => k_is)
    (case c_is_period => k_is)
    (case k_is_period => k_is)
    (case a_need_items => k_is)
    (case l_need_items => k_is)
    (case c_need_items => k_is)
    (case k_need_items => k_is)
    (case a_narrowest => k_is)
    (case l_narrowest => k_is)
    (case c_narrowest => k_is)
    (case k_narrowest => k_is)
    (case a_stretch_of => k_is)
    (case l_stretch_of => k_is)
    (case c_stretch_of => k_is)
    (case k_stretch_of => k_is)
    (case a_is_pair => k_is)
    (case l_is_pair => k_is)
    (case c_is_pair => k_is)
    (case k_is_pair => k_is)
    (case a_is_entry => k_is)
    (case l_is_entry => k_is)
    (case c_is_entry => k_is)
    (case k_is_entry => k_is)
    (case a_need_entries => k_is)
    (case l_need_entries => k_is)
    (case c_need_entries => k_is)
    (case k_need_entries => k_is)
    (case a_offsets_at => k_is)
    (case l_offsets_at => k_is)
    (case c_offsets_at => k_is)
    (case k_offsets_at => k_is)
    (case a_are_periods => k_is)
    (case l_are_periods => k_is)
    (case c_are_periods => k_is)
    (case k_are_periods => k_is)
    (case a_plays => k_is)
    (case l_plays => k_is)
    (case c_plays => k_is)
    (case k_plays => k_is)
    (case a_pen => k_is)
    (case l_pen => k_is)
    (case c_pen => k_is)
    (case k_pen => k_is)
    (case a_draw => k_is)
    (case l_draw => k_is)
    (case c_draw => k_is)
    (case k_draw => k_is)
    (case a_pick => k_is)
    (case l_pick => k_is)
    (case c_pick => k_is)
    (case k_pick => k_is)
    (case a_wheels => k_is)
    (case l_wheels => k_is)
    (case c_wheels => k_is)
    (case k_wheels => k_is)
    (case a_entries => k_is)
    (case l_entries => k_is)
    (case c_entries => k_is)
    (case k_entries => k_is)
    (case a_least => k_is)
    (case l_least => k_is)
    (case c_least => k_is)
    (case k_least => k_is)
    (case a_due => k_is)
    (case l_due => k_is)
    (case c_due => k_is)
    (case k_due => k_is)
    (case a_right => k_is)
    (case l_right => k_is)
    (case c_right => k_is)
    (case k_right => k_is)
    (case a_law => k_is)
    (case l_law => k_is)
    (case c_law => k_is)
    (case k_law => k_is)
    (case a_Stretch_init => k_is)
    (case l_Stretch_init => k_is)
    (case c_Stretch_init => k_is)
    (case k_Stretch_init => k_is)
    (case a_Stretch_eq => k_is)
    (case l_Stretch_eq => k_is)
    (case c_Stretch_eq => k_is)
    (case k_Stretch_eq => k_is)
    (case z_ValueError => k_is)
    (case z_abs => k_is)
    (case z_all => k_is)
    (case z_bool => k_is)
    (case z_enumerate => k_is)
    (case z_int => k_is)
    (case z_isinstance => k_is)
    (case z_len => k_is)
    (case z_list => k_is)
    (case z_min => k_is)
    (case z_range => k_is)
    (case z_repr => k_is)
    (case z_sorted => k_is)
    (case z_tuple => k_is)
    (case z_zip => k_is)
    (case y_cls => exact ⟨by k_is, by k_is, by k_is, by k_is⟩)
    (case y_m1 => first | k_is | rfl | decide +kernel)
    (case y_m3 => first | k_is | rfl | decide +kernel)
    (case y_m4 => first | k_is | rfl | decide +kernel)
    (case x_ha => first | k_is | rfl | decide +kernel)
    (case x_hn => first | k_is | rfl | decide +kernel)
    (case x_ht => first | k_is | rfl | decide +kernel)
    (case x_hm => first | k_is | rfl | decide +kernel)
    (case y_kk => first | k_is | rfl | decide +kernel)
    (case y_n1 => show PySem.W.findIn _ _ _ = _; k_is)
    (case y_n2 => show PySem.W.findIn _ _ _ = _; k_is)
    (case y_n3 => show PySem.W.findIn _ _ _ = _; k_is)
    (case y_ne => first | k_is | rfl | decide +kernel)
    (case y_bo => first | k_is | rfl | decide +kernel)
    (case y_le => first | k_is | rfl | decide +kernel)
    (case y_f2 => first | k_is | rfl | decide +kernel)
