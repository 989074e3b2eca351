import PyProof.Rows.All
import Wide.All
import OpenK.AllK
import Wide.FinOn
import HandS.Walk
import KE.DatumOrd
import KE.KDictZip
import KE.GoesMore
import HandS.ForMost
import HandS.ForExc
import HandS.Star
import HandS.Gcd
import HandS.Wide
import HandS.IsInst
import HandS.Style
import HandS.Codes
import HandS.Sort
import HandS.TupAny
import HandS.OwnEq
import HandS.ClsMeth
import HandS.MakeKw
import HandS.MakeKwOnly
import HandS.IterVal
import HandS.Lambda
import KE.KOwnIter
import HandS.EndTab
import KE.KExcIs
import KE.DataMinMax
import PySem.Challenge.RW_wheelreach_k86_least_stretches_of_offset
set_option Elab.async false
set_option linter.all false
set_option maxRecDepth 100000
set_option maxHeartbeats 4000000
/-! Numbers: divisors, multiples, remainders put together, as plain functions, and what holds of them. -/
namespace NM

/-! ### common, multiple -/
def gcdL (ns : List Int) : Nat := ns.foldl (fun g n => Nat.gcd g n.natAbs) 0
def lcmL (ns : List Int) : Nat := ns.foldl (fun g n => Nat.lcm g n.natAbs) 1
theorem gcdL_snoc (l : List Int) (z : Int) : gcdL (l ++ [z]) = Nat.gcd (gcdL l) z.natAbs := by
  unfold gcdL; rw [List.foldl_append]; rfl
theorem lcmL_snoc (l : List Int) (z : Int) : lcmL (l ++ [z]) = Nat.lcm (lcmL l) z.natAbs := by
  unfold lcmL; rw [List.foldl_append]; rfl
theorem take_snoc {α : Type} : ∀ {l : List α} {i : Nat} {x : α}, l[i]? = some x → l.take (i + 1) = l.take i ++ [x]
  | [], i, x, h => by simp at h
  | a :: l, 0, x, h => by
    have e : a = x := Option.some.inj h
    subst e
    rfl
  | a :: l, i + 1, x, h => by
    have ih := take_snoc (l := l) (i := i) (x := x) h
    show a :: l.take (i + 1) = a :: l.take i ++ [x]
    rw [ih]
    rfl
theorem lcm_step {f n : Int} (hf : 0 < f) (hn : 0 < n) : f / ((Nat.gcd f.natAbs n.natAbs : Nat) : Int) * n = ((Nat.lcm f.natAbs n.natAbs : Nat) : Int) := by
  obtain ⟨a, rfl⟩ : ∃ a : Nat, f = (a : Int) := ⟨f.toNat, by omega⟩
  obtain ⟨b, rfl⟩ : ∃ b : Nat, n = (b : Int) := ⟨n.toNat, by omega⟩
  simp only [Int.natAbs_natCast]
  have h := Nat.gcd_dvd_left a b
  rw [← Int.natCast_ediv, ← Int.natCast_mul]
  congr 1
  unfold Nat.lcm
  rw [Nat.mul_comm (a / _) b, Nat.mul_comm a b, Nat.mul_div_assoc _ h]
theorem lcmL_pos {l : List Int} (h : ∀ z ∈ l, 0 < z) : 0 < lcmL l := by
  unfold lcmL
  suffices ∀ (l : List Int) (a : Nat), 0 < a → (∀ z ∈ l, 0 < z) → 0 < l.foldl (fun g n => Nat.lcm g n.natAbs) a from this l 1 (by decide) h
  intro l
  induction l with
  | nil => intro a ha _; exact ha
  | cons z l ih =>
    intro a ha h
    refine ih _ ?_ (fun y hy => h y (List.mem_cons_of_mem _ hy))
    have hz := h z List.mem_cons_self
    exact Nat.lcm_pos ha (by omega)
theorem lcm_le_mul {a b : Nat} (ha : 0 < a) (hb : 0 < b) : Nat.lcm a b ≤ a * b := Nat.le_of_dvd (Nat.mul_pos ha hb) (Nat.lcm_dvd_mul a b)

/-! ### how far from a multiple -/
def apartI (d p : Int) : Int := if p - d % p < d % p then p - d % p else d % p
theorem apart_nn {d p : Int} (hp : 0 < p) : 0 ≤ apartI d p := by
  unfold apartI
  have h1 := Int.emod_nonneg d (show p ≠ 0 by omega)
  have h2 := Int.emod_lt_of_pos d hp
  split <;> omega
theorem apart_half {d p : Int} (hp : 0 < p) : 2 * apartI d p ≤ p := by
  unfold apartI
  have h1 := Int.emod_nonneg d (show p ≠ 0 by omega)
  have h2 := Int.emod_lt_of_pos d hp
  split <;> omega
/-- the nearest multiple is that far away -/
theorem apart_at {d p : Int} (hp : 0 < p) : ∃ k, d = p * k + apartI d p ∨ d = p * k - apartI d p := by
  have e := Int.mul_ediv_add_emod d p
  unfold apartI
  split
  · refine ⟨d / p + 1, .inr ?_⟩
    rw [Int.mul_add]; omega
  · exact ⟨d / p, .inl (by omega)⟩
/-- no multiple is nearer -/
theorem apart_le {d p : Int} (hp : 0 < p) (k a : Int) (h : d = p * k + a) : apartI d p ≤ (a.natAbs : Int) := by
  have e1 : d % p = a % p := by rw [h, Int.add_comm, Int.add_mul_emod_self_left]
  have h1 := Int.emod_nonneg a (show p ≠ 0 by omega)
  have h2 := Int.emod_lt_of_pos a hp
  have e := Int.mul_ediv_add_emod a p
  unfold apartI
  rw [e1]
  by_cases h0 : 0 ≤ a
  · have : a % p ≤ a := by
      have : 0 ≤ a / p := Int.ediv_nonneg h0 (by omega)
      have := Int.mul_nonneg (show 0 ≤ p by omega) this
      omega
    split <;> omega
  · have hq : a / p ≤ -1 := by
      have := Int.ediv_lt_of_lt_mul hp (show a < 0 * p by omega)
      omega
    have : p * (a / p) ≤ p * (-1) := Int.mul_le_mul_of_nonneg_left hq (by omega)
    split <;> omega
theorem apart_neg {d p : Int} (hp : 0 < p) : apartI (-d) p = apartI d p := by
  have aux : ∀ x : Int, apartI (-x) p ≤ apartI x p := fun x => by
    obtain ⟨k, h | h⟩ := apart_at (d := x) hp
    · have := apart_le (d := -x) hp (-k) (-apartI x p) (by rw [Int.mul_neg]; omega)
      have := apart_nn (d := x) hp
      omega
    · have := apart_le (d := -x) hp (-k) (apartI x p) (by rw [Int.mul_neg]; omega)
      have := apart_nn (d := x) hp
      omega
  have h1 := aux d
  have h2 := aux (-d)
  rw [Int.neg_neg] at h2
  omega
theorem apart_round {d p : Int} (hp : 0 < p) (k : Int) : apartI (d + p * k) p = apartI d p := by
  unfold apartI
  rw [Int.add_mul_emod_self_left]
theorem apart_tri {d e p : Int} (hp : 0 < p) : apartI (d + e) p ≤ apartI d p + apartI e p := by
  have n1 := apart_nn (d := d) hp
  have n2 := apart_nn (d := e) hp
  obtain ⟨k, h⟩ := apart_at (d := d) hp
  obtain ⟨l, g⟩ := apart_at (d := e) hp
  have fin : ∀ a : Int, d + e = p * (k + l) + a → (a.natAbs : Int) ≤ apartI d p + apartI e p → apartI (d + e) p ≤ apartI d p + apartI e p := fun a ha hb =>
    Int.le_trans (apart_le hp (k + l) a ha) hb
  have ex : p * (k + l) = p * k + p * l := Int.mul_add _ _ _
  rcases h with h | h <;> rcases g with g | g
  · exact fin (apartI d p + apartI e p) (by rw [ex]; omega) (by omega)
  · exact fin (apartI d p - apartI e p) (by rw [ex]; omega) (by omega)
  · exact fin (-apartI d p + apartI e p) (by rw [ex]; omega) (by omega)
  · exact fin (-apartI d p - apartI e p) (by rw [ex]; omega) (by omega)
theorem apart_mult {p k : Int} (hp : 0 < p) : apartI (p * k) p = 0 := by
  unfold apartI
  rw [Int.mul_emod_right]
  split <;> omega
theorem apart_self {p : Int} (hp : 0 < p) : apartI p p = 0 := by
  have h := apart_mult (k := 1) hp
  rwa [Int.mul_one] at h
theorem apart_reach {d p : Int} (hp : 0 < p) : apartI (d - apartI d p) p = 0 ∨ apartI (d + apartI d p) p = 0 := by
  obtain ⟨k, h | h⟩ := apart_at (d := d) hp
  · left
    have e : d - apartI d p = p * k := by omega
    rw [e]; exact apart_mult hp
  · right
    have e : d + apartI d p = p * k := by omega
    rw [e]; exact apart_mult hp

theorem gcd_emod (a b : Int) : Int.gcd (a % b) b = Int.gcd a b := by
  have e := Int.mul_ediv_add_emod a b
  have h : a % b = a - a / b * b := by rw [Int.mul_comm]; omega
  rw [h]; exact Int.gcd_sub_mul_right_left _ _ _
/-! ### the inverse, by Euclid's division -/
structure Euc (number divisor left right found following : Int) : Prop where
  l : 0 < left
  r : 0 ≤ right
  rl : right < left ∨ left = divisor
  le : left ≤ divisor
  rd : right < divisor
  g : Nat.gcd left.natAbs right.natAbs = Nat.gcd divisor.natAbs number.natAbs
  c1 : divisor ∣ found * number - left
  c2 : divisor ∣ following * number - right
  s : (found ≤ 0 ∧ 0 ≤ following ∧ left * following - right * found = divisor) ∨ (0 ≤ found ∧ following ≤ 0 ∧ right * found - left * following = divisor)
theorem Euc.start {number divisor : Int} (hd : 0 < divisor) : Euc number divisor divisor (number % divisor) 0 1 where
  l := hd
  r := Int.emod_nonneg _ (by omega)
  rl := .inr rfl
  le := Int.le_refl _
  rd := Int.emod_lt_of_pos _ hd
  g := by
    have e := Int.mul_ediv_add_emod number divisor
    have h : ((Nat.gcd divisor.natAbs (number % divisor).natAbs : Nat) : Int) = ((Nat.gcd divisor.natAbs number.natAbs : Nat) : Int) := by
      show ((Int.gcd divisor (number % divisor) : Nat) : Int) = ((Int.gcd divisor number : Nat) : Int)
      congr 1
      rw [Int.gcd_comm, Int.gcd_comm divisor number]
      exact gcd_emod _ _
    exact Int.natCast_inj.mp h
  c1 := ⟨-1, by omega⟩
  c2 := by
    have e := Int.mul_ediv_add_emod number divisor
    exact ⟨number / divisor, by omega⟩
  s := .inl ⟨Int.le_refl _, by omega, by omega⟩
theorem Euc.turn {number divisor left right found following : Int} (E : Euc number divisor left right found following) (h : right ≠ 0) :
    Euc number divisor right (left - left / right * right) following (found - left / right * following) := by
  have hr : 0 < right := by have := E.r; omega
  have e := Int.mul_ediv_add_emod left right
  have em : left - left / right * right = left % right := by rw [Int.mul_comm]; omega
  have h1 := Int.emod_nonneg left (show right ≠ 0 by omega)
  have h2 := Int.emod_lt_of_pos left hr
  have hq : 0 ≤ left / right := Int.ediv_nonneg (Int.le_of_lt E.l) (by omega)
  have lrd := E.rd
  refine ⟨hr, by omega, .inl (by omega), by omega, by omega, ?_, E.c2, ?_, ?_⟩
  · rw [← E.g, em]
    show Int.gcd right (left % right) = Int.gcd left right
    rw [Int.gcd_comm]
    exact gcd_emod _ _
  · obtain ⟨a, ha⟩ := E.c1
    obtain ⟨b, hb⟩ := E.c2
    refine ⟨a - left / right * b, ?_⟩
    rw [Int.sub_mul, Int.mul_sub]
    have x1 : left / right * following * number = left / right * (following * number) := Int.mul_assoc _ _ _
    have x2 : divisor * (left / right * b) = left / right * (divisor * b) := by rw [← Int.mul_assoc, Int.mul_comm divisor, Int.mul_assoc]
    rw [x1, x2, ← hb, ← ha, Int.mul_sub]
    omega
  · have hm : ∀ x : Int, 0 ≤ x → 0 ≤ left / right * x := fun x hx => Int.mul_nonneg hq hx
    have hn : ∀ x : Int, x ≤ 0 → left / right * x ≤ 0 := fun x hx => by
      have := Int.mul_nonneg hq (show 0 ≤ -x by omega)
      rw [Int.mul_neg] at this
      omega
    have y1 : right * (found - left / right * following) = right * found - right * (left / right * following) := Int.mul_sub _ _ _
    have y2 : (left - left / right * right) * following = left * following - left / right * right * following := Int.sub_mul _ _ _
    have y3 : left / right * right * following = right * (left / right * following) := by rw [Int.mul_comm (left / right) right, Int.mul_assoc]
    rcases E.s with ⟨s1, s2, s3⟩ | ⟨s1, s2, s3⟩
    · refine .inr ⟨s2, by have := hm _ s2; omega, ?_⟩
      rw [y1, y2, y3]; omega
    · refine .inl ⟨s2, by have := hn _ s2; omega, ?_⟩
      rw [y1, y2, y3]; omega
theorem Euc.less {number divisor left right found following : Int} (E : Euc number divisor left right found following) (h : right ≠ 0) : (left - left / right * right).toNat < right.toNat := by
  have hr : 0 < right := by have := E.r; omega
  have e := Int.mul_ediv_add_emod left right
  have em : left - left / right * right = left % right := by rw [Int.mul_comm]; omega
  have h1 := Int.emod_nonneg left (show right ≠ 0 by omega)
  have h2 := Int.emod_lt_of_pos left hr
  omega
/-- the sizes -/
theorem Euc.size {number divisor left right found following : Int} (E : Euc number divisor left right found following) : following.natAbs ≤ divisor.natAbs ∧ (right ≠ 0 → found.natAbs ≤ divisor.natAbs) := by
  have l := E.l
  have r := E.r
  have key : ∀ a b c e : Int, 0 < a → 0 ≤ b → 0 ≤ c → 0 ≤ e → a * c + b * e = divisor → c ≤ divisor ∧ (b ≠ 0 → e ≤ divisor) := fun a b c e ha hb hc he h => by
    have p1 := Int.mul_nonneg hb he
    have p2 : c ≤ a * c := by
      have := Int.mul_le_mul_of_nonneg_right (show 1 ≤ a by omega) hc
      omega
    refine ⟨by omega, fun hb0 => ?_⟩
    have p3 : e ≤ b * e := by
      have := Int.mul_le_mul_of_nonneg_right (show 1 ≤ b by omega) he
      omega
    have p4 := Int.mul_nonneg (Int.le_of_lt ha) hc
    omega
  rcases E.s with ⟨s1, s2, s3⟩ | ⟨s1, s2, s3⟩
  · have k := key left right following (-found) l r s2 (by omega) (by rw [Int.mul_neg]; omega)
    exact ⟨by omega, fun h => by have := k.2 h; omega⟩
  · have k := key left right (-following) found l r (by omega) s1 (by rw [Int.mul_neg]; omega)
    exact ⟨by omega, fun h => by have := k.2 h; omega⟩
theorem Euc.fin {number divisor left found following : Int} (E : Euc number divisor left 0 found following) (hg : Nat.gcd divisor.natAbs number.natAbs = 1) : divisor ∣ found * number - 1 := by
  have g := E.g
  rw [hg] at g
  have l := E.l
  have : left = 1 := by
    simp at g
    omega
  have c := E.c1
  rwa [this] at c
end NM

namespace NM
/-! stretches of a ring -/
/-- o is at most w behind b, on the ring of p -/
def inSt (p b w o : Int) : Bool := decide ((o - b) % p ≤ w)
/-- at least k of them are -/
def Valid (p : Int) (os : List Int) (k : Int) (w b : Int) : Prop := k ≤ (os.countP (inSt p b w) : Nat)
def lexLe (w b w' b' : Int) : Prop := w < w' ∨ (w = w' ∧ b ≤ b')
/-- the least width, and its least begin -/
def LeastSt (p : Int) (os : List Int) (k : Int) (w b : Int) : Prop := 0 ≤ w ∧ w < p ∧ 0 ≤ b ∧ b < p ∧ Valid p os k w b ∧ ∀ w' b', 0 ≤ w' → w' < p → 0 ≤ b' → b' < p → Valid p os k w' b' → lexLe w b w' b'
theorem LeastSt.uniq {p : Int} {os : List Int} {k w b w' b' : Int} (h : LeastSt p os k w b) (g : LeastSt p os k w' b') : w = w' ∧ b = b' := by
  obtain ⟨h1, h2, h3, h4, h5, h6⟩ := h
  obtain ⟨g1, g2, g3, g4, g5, g6⟩ := g
  have a := h6 _ _ g1 g2 g3 g4 g5
  have c := g6 _ _ h1 h2 h3 h4 h5
  unfold lexLe at a c
  omega
theorem least_none {p : Int} {os : List Int} {k : Int} (h0 : 0 < p) (hk : k ≤ 0) : LeastSt p os k 0 0 := by
  refine ⟨by omega, h0, by omega, h0, ?_, fun w' b' a _ c _ _ => ?_⟩
  · unfold Valid; omega
  · unfold lexLe; omega
/-- in an ascending list those that keep to what goes down come first -/
theorem asc_count {q : Int → Bool} (hq : ∀ x y, y ≤ x → q x = true → q y = true) : ∀ (l : List Int), l.Pairwise (· ≤ ·) → ∀ (j : Nat) (x : Int), l[j]? = some x → (q x = true ↔ j < l.countP q)
  | [], _, j, x, h => by simp at h
  | a :: r, hp, j, x, h => by
    rw [List.pairwise_cons] at hp
    by_cases ha : q a = true
    · rw [List.countP_cons, if_pos ha]
      cases j with
      | zero =>
        cases h
        exact ⟨fun _ => by omega, fun _ => ha⟩
      | succ i =>
        have ih := asc_count hq r hp.2 i x (by simpa using h)
        rw [ih]
        omega
    · have z : ∀ y ∈ a :: r, ¬ q y = true := fun y hy c => by
        rcases List.mem_cons.mp hy with e | e
        · exact ha (e ▸ c)
        · exact ha (hq y a (hp.1 y e) c)
      have m : x ∈ a :: r := List.mem_of_getElem? h
      rw [List.countP_eq_zero.mpr z]
      exact ⟨fun c => absurd c (z x m), fun c => by omega⟩
/-- each one again, a round farther -/
def dbl (p : Int) (rows : List Int) : List Int := rows ++ rows.map (· + p)
theorem dbl_lo {p : Int} {rows : List Int} {i : Nat} {x : Int} (h : rows[i]? = some x) : (dbl p rows)[i]? = some x := by
  have := (List.getElem?_eq_some_iff.mp h).1
  unfold dbl
  rw [List.getElem?_append_left this, h]
theorem dbl_hi {p : Int} {rows : List Int} {i : Nat} {x : Int} (h : rows[i]? = some x) : (dbl p rows)[rows.length + i]? = some (x + p) := by
  unfold dbl
  rw [List.getElem?_append_right (by omega), Nat.add_sub_cancel_left, List.getElem?_map, h]
  rfl
theorem dbl_asc {p : Int} {rows : List Int} (hs : rows.Pairwise (· ≤ ·)) (hr : ∀ o ∈ rows, 0 ≤ o ∧ o < p) : (dbl p rows).Pairwise (· ≤ ·) := by
  unfold dbl
  rw [List.pairwise_append]
  refine ⟨hs, ?_, fun a ha b hb => ?_⟩
  · rw [List.pairwise_map]
    exact hs.imp fun h => by omega
  · obtain ⟨c, hc, rfl⟩ := List.mem_map.mp hb
    have := hr a ha
    have := hr c hc
    omega
theorem in_win {p b w o : Int} (h0 : 0 ≤ b) (h1 : b < p) (w0 : 0 ≤ w) (w1 : w < p) (o0 : 0 ≤ o) (o1 : o < p) : inSt p b w o = true ↔ (b ≤ o ∧ o ≤ b + w) ∨ (b ≤ o + p ∧ o + p ≤ b + w) := by
  unfold inSt
  rw [decide_eq_true_iff]
  by_cases c : b ≤ o
  · rw [Int.emod_eq_of_lt (by omega) (by omega)]; omega
  · rw [← Int.add_emod_right, Int.emod_eq_of_lt (by omega) (by omega)]; omega
theorem count_or {α : Type} {f g h : α → Bool} : ∀ (l : List α), (∀ x ∈ l, (f x = true ↔ g x = true ∨ h x = true) ∧ ¬ (g x = true ∧ h x = true)) → l.countP f = l.countP g + l.countP h
  | [], _ => rfl
  | a :: r, z => by
    have i := count_or r fun x hx => z x (List.mem_cons_of_mem _ hx)
    obtain ⟨z1, z2⟩ := z a List.mem_cons_self
    rw [List.countP_cons, List.countP_cons, List.countP_cons, i]
    by_cases u : g a = true <;> by_cases v : h a = true
    · exact absurd ⟨u, v⟩ z2
    · rw [if_pos u, if_neg v, if_pos (z1.mpr (.inl u))]; omega
    · rw [if_neg u, if_pos v, if_pos (z1.mpr (.inr v))]; omega
    · rw [if_neg u, if_neg v, if_neg fun c => by rcases z1.mp c with c | c; exact u c; exact v c]; omega
theorem count_win {p b w : Int} {rows : List Int} (h0 : 0 ≤ b) (h1 : b < p) (w0 : 0 ≤ w) (w1 : w < p) (hr : ∀ o ∈ rows, 0 ≤ o ∧ o < p) :
    (dbl p rows).countP (fun x => decide (x < b)) + rows.countP (inSt p b w) = (dbl p rows).countP (fun x => decide (x ≤ b + w)) := by
  have e1 : rows.countP (inSt p b w) = (dbl p rows).countP fun x => decide (b ≤ x ∧ x ≤ b + w) := by
    unfold dbl
    rw [List.countP_append, List.countP_map]
    refine count_or rows fun o ho => ?_
    have := hr o ho
    rw [in_win h0 h1 w0 w1 this.1 this.2]
    simp only [Function.comp_apply, decide_eq_true_iff]
    exact ⟨trivial, by omega⟩
  rw [e1]
  symm
  refine count_or _ fun x _ => ?_
  simp only [decide_eq_true_iff]
  omega
/-- of each stretch that holds k there is a pair of rows that is no worse -/
theorem pair_of_valid {p : Int} {rows : List Int} {k : Nat} {w b : Int} (hs : rows.Pairwise (· ≤ ·)) (hr : ∀ o ∈ rows, 0 ≤ o ∧ o < p) (k0 : 0 < k) (kn : k ≤ rows.length) (w0 : 0 ≤ w) (w1 : w < p) (b0 : 0 ≤ b) (b1 : b < p)
    (hv : Valid p rows k w b) : ∃ (i : Nat) (x y : Int), i < rows.length ∧ rows[i]? = some x ∧ (dbl p rows)[i + k - 1]? = some y ∧ lexLe (y - x) x w b := by
  have cw := count_win b0 b1 w0 w1 hr
  have hd := dbl_asc hs hr
  have c1 := asc_count (q := fun x => decide (x < b)) (fun x y l h => by rw [decide_eq_true_iff] at h ⊢; omega) _ hd
  have c2 := asc_count (q := fun x => decide (x ≤ b + w)) (fun x y l h => by rw [decide_eq_true_iff] at h ⊢; omega) _ hd
  simp only [decide_eq_true_iff] at c1 c2
  unfold Valid at hv
  have lim : (dbl p rows).countP (fun x => decide (x ≤ b + w)) ≤ (dbl p rows).length := List.countP_le_length
  have len : (dbl p rows).length = rows.length + rows.length := by unfold dbl; rw [List.length_append, List.length_map]
  have sn : (dbl p rows).countP (fun x => decide (x < b)) ≤ rows.length := by
    unfold dbl
    rw [List.countP_append]
    have z : (rows.map (· + p)).countP (fun x => decide (x < b)) = 0 := List.countP_eq_zero.mpr fun y hy c => by
      obtain ⟨o, ho, rfl⟩ := List.mem_map.mp hy
      have := hr o ho
      rw [decide_eq_true_iff] at c
      omega
    rw [z]
    exact List.countP_le_length
  generalize (dbl p rows).countP (fun x => decide (x < b)) = s at cw c1 sn
  generalize (dbl p rows).countP (fun x => decide (x ≤ b + w)) = t at cw c2 lim
  have st : s + k ≤ t := by omega
  obtain ⟨y, hy⟩ : ∃ y, (dbl p rows)[s + k - 1]? = some y := ⟨_, List.getElem?_eq_getElem (by omega)⟩
  have y1 := (c2 _ _ hy).mpr (by omega)
  by_cases c : s < rows.length
  · obtain ⟨x, hx⟩ : ∃ x, rows[s]? = some x := ⟨_, List.getElem?_eq_getElem c⟩
    have x1 : ¬ x < b := fun z => by have := (c1 _ _ (dbl_lo hx)).mp z; omega
    refine ⟨s, x, y, c, hx, hy, ?_⟩
    unfold lexLe
    omega
  · have e : s = rows.length := by omega
    obtain ⟨x, hx⟩ : ∃ x, rows[0]? = some x := ⟨_, List.getElem?_eq_getElem (by omega)⟩
    obtain ⟨z, hz⟩ : ∃ z, rows[k - 1]? = some z := ⟨_, List.getElem?_eq_getElem (by omega)⟩
    have hz2 := dbl_hi (p := p) hz
    rw [show rows.length + (k - 1) = s + k - 1 by omega, hy] at hz2
    have ez : y = z + p := Option.some.inj hz2
    have x0 := hr x (List.mem_of_getElem? hx)
    refine ⟨0, x, z, by omega, hx, ?_, ?_⟩
    · rw [Nat.zero_add]; exact dbl_lo hz
    · unfold lexLe
      omega
theorem asc_le {l : List Int} (hs : l.Pairwise (· ≤ ·)) {i j : Nat} {x y : Int} (h : i ≤ j) (hx : l[i]? = some x) (hy : l[j]? = some y) : x ≤ y := by
  obtain ⟨hi, rfl⟩ := List.getElem?_eq_some_iff.mp hx
  obtain ⟨hj, rfl⟩ := List.getElem?_eq_some_iff.mp hy
  rcases Nat.lt_or_eq_of_le h with c | c
  · exact List.pairwise_iff_getElem.mp hs i j hi hj c
  · subst c; exact Int.le_refl _
/-- each pair of rows that is less than a round holds k -/
theorem valid_of_pair {p : Int} {rows : List Int} {k : Nat} {i : Nat} {x y : Int} (hs : rows.Pairwise (· ≤ ·)) (hr : ∀ o ∈ rows, 0 ≤ o ∧ o < p) (k0 : 0 < k) (hx : rows[i]? = some x) (hy : (dbl p rows)[i + k - 1]? = some y) (hw : y - x < p) : 0 ≤ y - x ∧ Valid p rows k (y - x) x := by
  have x0 := hr x (List.mem_of_getElem? hx)
  have hd := dbl_asc hs hr
  have w0 : 0 ≤ y - x := by have := asc_le hd (show i ≤ i + k - 1 by omega) (dbl_lo hx) hy; omega
  refine ⟨w0, ?_⟩
  have cw := count_win x0.1 x0.2 w0 hw hr
  have c1 := asc_count (q := fun z => decide (z < x)) (fun x y l h => by rw [decide_eq_true_iff] at h ⊢; omega) _ hd _ _ (dbl_lo hx)
  have c2 := asc_count (q := fun z => decide (z ≤ x + (y - x))) (fun x y l h => by rw [decide_eq_true_iff] at h ⊢; omega) _ hd _ _ hy
  simp only [decide_eq_true_iff] at c1 c2
  unfold Valid
  omega
/-- the least of the pairs -/
def MinPair (p : Int) (rows : List Int) (k : Nat) (w b : Int) : Prop := (∃ (i : Nat) (x y : Int), i < rows.length ∧ rows[i]? = some x ∧ (dbl p rows)[i + k - 1]? = some y ∧ w = y - x ∧ b = x) ∧
  ∀ (i : Nat) (x y : Int), i < rows.length → rows[i]? = some x → (dbl p rows)[i + k - 1]? = some y → lexLe w b (y - x) x
theorem least_of_pairs {p : Int} {rows os : List Int} {k : Nat} {w b : Int} (hp : rows.Perm os) (hs : rows.Pairwise (· ≤ ·)) (hr : ∀ o ∈ os, 0 ≤ o ∧ o < p) (k0 : 0 < k) (kn : k ≤ os.length) (h : MinPair p rows k w b) : LeastSt p os k w b := by
  have hr' : ∀ o ∈ rows, 0 ≤ o ∧ o < p := fun o ho => hr o (hp.mem_iff.mp ho)
  have kn' : k ≤ rows.length := by rw [hp.length_eq]; exact kn
  have pv : ∀ w b, Valid p os k w b ↔ Valid p rows k w b := fun w b => by unfold Valid; rw [hp.countP_eq]
  obtain ⟨⟨i, x, y, hi, hx, hy, rfl, rfl⟩, hmin⟩ := h
  have x0 := hr' b (List.mem_of_getElem? hx)
  -- the first pair is less than a round
  have wp : y - b < p := by
    obtain ⟨x', hx'⟩ : ∃ x, rows[0]? = some x := ⟨_, List.getElem?_eq_getElem (by omega)⟩
    obtain ⟨z, hz⟩ : ∃ z, rows[k - 1]? = some z := ⟨_, List.getElem?_eq_getElem (by omega)⟩
    have m := hmin 0 x' z (by omega) hx' (by rw [Nat.zero_add]; exact dbl_lo hz)
    have := hr' x' (List.mem_of_getElem? hx')
    have := hr' z (List.mem_of_getElem? hz)
    unfold lexLe at m
    omega
  obtain ⟨w0, v⟩ := valid_of_pair hs hr' k0 hx hy wp
  refine ⟨w0, wp, x0.1, x0.2, (pv _ _).mpr v, fun w' b' a1 a2 a3 a4 a5 => ?_⟩
  obtain ⟨j, x', y', hj, hx', hy', l⟩ := pair_of_valid hs hr' k0 kn' a1 a2 a3 a4 ((pv _ _).mp a5)
  have m := hmin j x' y' hj hx' hy'
  unfold lexLe at m l ⊢
  omega
end NM
namespace NM
theorem scale_in {p b w o m : Int} (hm : 0 < m) : inSt (p * m) (b * m) (w * m) (o * m) = inSt p b w o := by
  unfold inSt
  rw [← Int.sub_mul, Int.mul_comm _ m, Int.mul_comm p m, Int.mul_emod_mul_of_pos _ _ hm, Int.mul_comm w m, decide_eq_decide]
  exact ⟨fun z => Int.le_of_mul_le_mul_left z hm, fun z => Int.mul_le_mul_of_nonneg_left z (Int.le_of_lt hm)⟩
theorem dbl_scale {p m : Int} {rows : List Int} : dbl (p * m) (rows.map (· * m)) = (dbl p rows).map (· * m) := by
  unfold dbl
  rw [List.map_append, List.map_map, List.map_map]
  congr 1
  refine List.map_congr_left fun x _ => ?_
  show x * m + p * m = (x + p) * m
  rw [Int.add_mul]
theorem MinPair.scale {p m : Int} {rows : List Int} {k : Nat} {w b : Int} (hm : 0 < m) (h : MinPair p rows k w b) : MinPair (p * m) (rows.map (· * m)) k (w * m) (b * m) := by
  obtain ⟨⟨i, x, y, hi, hx, hy, rfl, rfl⟩, hmin⟩ := h
  refine ⟨⟨i, b * m, y * m, by rw [List.length_map]; exact hi, by rw [List.getElem?_map, hx]; rfl, by rw [dbl_scale, List.getElem?_map, hy]; rfl, by rw [Int.sub_mul], rfl⟩, fun j x' y' hj hx' hy' => ?_⟩
  rw [List.length_map] at hj
  rw [List.getElem?_map] at hx'
  rw [dbl_scale, List.getElem?_map] at hy'
  obtain ⟨u, hu, rfl⟩ := Option.map_eq_some_iff.mp hx'
  obtain ⟨v, hv, rfl⟩ := Option.map_eq_some_iff.mp hy'
  have l := hmin j u v hj hu hv
  unfold lexLe at l ⊢
  rw [← Int.sub_mul]
  rcases l with l | ⟨l1, l2⟩
  · exact .inl (Int.mul_lt_mul_of_pos_right l hm)
  · exact .inr ⟨by rw [l1], Int.mul_le_mul_of_nonneg_right l2 (Int.le_of_lt hm)⟩
/-- what narrowest tells: its width and its begin -/
def Narrow (p : Int) (os : List Int) (k w b : Int) : Prop := (k ≤ 0 ∧ w = 0 ∧ b = 0) ∨ (0 < k ∧ ∃ rows : List Int, rows.Perm os ∧ rows.Pairwise (· ≤ ·) ∧ MinPair p rows k.toNat w b)
theorem Narrow.scale {p m : Int} {os : List Int} {k w b : Int} (hm : 0 < m) (h : Narrow p os k w b) : Narrow (p * m) (os.map (· * m)) k (w * m) (b * m) := by
  rcases h with ⟨a, rfl, rfl⟩ | ⟨k0, rows, hp, hs, hmin⟩
  · exact .inl ⟨a, by rw [Int.zero_mul], by rw [Int.zero_mul]⟩
  · refine .inr ⟨k0, rows.map (· * m), hp.map _, ?_, hmin.scale hm⟩
    rw [List.pairwise_map]
    exact hs.imp fun h => Int.mul_le_mul_of_nonneg_right h (Int.le_of_lt hm)
theorem Narrow.least {p : Int} {os : List Int} {k w b : Int} (h0 : 0 < p) (hr : ∀ o ∈ os, 0 ≤ o ∧ o < p) (kn : k ≤ (os.length : Nat)) (h : Narrow p os k w b) : LeastSt p os k w b := by
  rcases h with ⟨a, rfl, rfl⟩ | ⟨k0, rows, hp, hs, hmin⟩
  · exact least_none h0 a
  · have e : ((k.toNat : Nat) : Int) = k := Int.toNat_of_nonneg (by omega)
    have l := least_of_pairs hp hs hr (by omega) (by omega) hmin
    rw [e] at l
    exact l
theorem range_scaled {p m : Int} {os : List Int} (hm : 0 < m) (hr : ∀ o ∈ os, 0 ≤ o ∧ o < p) : ∀ o ∈ os.map (· * m), 0 ≤ o ∧ o < p * m := fun o ho => by
  obtain ⟨x, hx, rfl⟩ := List.mem_map.mp ho
  have := hr x hx
  exact ⟨Int.mul_nonneg this.1 (Int.le_of_lt hm), Int.mul_lt_mul_of_pos_right this.2 hm⟩
/-- the places of those that are left out -/
def leftSt (p b w : Int) (os : List Int) : List Nat := (List.range os.length).filter fun i => !inSt p b w (os.getD i 0)
theorem left_scale {p b w m : Int} {os : List Int} (hm : 0 < m) : leftSt (p * m) (b * m) (w * m) (os.map (· * m)) = leftSt p b w os := by
  unfold leftSt
  rw [List.length_map]
  refine List.filter_congr fun i hi => ?_
  rw [List.mem_range] at hi
  have e : (os.map (· * m)).getD i 0 = os.getD i 0 * m := by
    rw [List.getD_eq_getElem?_getD, List.getD_eq_getElem?_getD, List.getElem?_map, List.getElem?_eq_getElem hi]
    rfl
  rw [e, scale_in hm]
theorem range_getD (os : List Int) : (List.range os.length).map (fun i => os.getD i 0) = os := by
  refine List.ext_getElem? fun i => ?_
  rw [List.getElem?_map]
  by_cases h : i < os.length
  · rw [List.getElem?_range h, List.getElem?_eq_getElem h]
    show some (os.getD i 0) = _
    rw [List.getD_eq_getElem?_getD, List.getElem?_eq_getElem h]
    rfl
  · rw [List.getElem?_eq_none (by rw [List.length_range]; omega), List.getElem?_eq_none (by omega)]
    rfl
theorem left_count {p b w : Int} (os : List Int) : (leftSt p b w os).length + os.countP (inSt p b w) = os.length := by
  have e : os.countP (inSt p b w) = (List.range os.length).countP fun i => inSt p b w (os.getD i 0) := by
    conv => lhs; rw [← range_getD os]
    rw [List.countP_map]
    rfl
  rw [e]
  unfold leftSt
  rw [← List.countP_eq_length_filter]
  have := List.length_eq_countP_add_countP (fun i => inSt p b w (os.getD i 0)) (l := List.range os.length)
  rw [List.length_range] at this
  have e2 : (List.range os.length).countP (fun i => !inSt p b w (os.getD i 0)) = (List.range os.length).countP (fun i => decide ¬inSt p b w (os.getD i 0) = true) := by
    refine List.countP_congr fun i _ => ?_
    cases inSt p b w (os.getD i 0) <;> simp
  omega
end NM

namespace NM
/-- the least stretch, looked up by trying all -/
def chkSt (p : Nat) (os : List Int) (k w b : Int) : Bool := decide (0 ≤ w ∧ w < p ∧ 0 ≤ b ∧ b < p ∧ k ≤ (os.countP (inSt p b w) : Nat)) &&
  (List.range p).all fun w' => (List.range p).all fun b' => !decide (k ≤ (os.countP (inSt p (b' : Nat) (w' : Nat)) : Nat)) || decide (w < (w' : Nat) ∨ (w = (w' : Nat) ∧ b ≤ (b' : Nat)))
theorem chk_least {p : Nat} {os : List Int} {k w b : Int} (h : chkSt p os k w b = true) : LeastSt p os k w b := by
  unfold chkSt at h
  rw [Bool.and_eq_true, decide_eq_true_iff] at h
  obtain ⟨⟨a1, a2, a3, a4, a5⟩, h⟩ := h
  refine ⟨a1, a2, a3, a4, a5, fun w' b' w0 w1 b0 b1 v => ?_⟩
  obtain ⟨wn, rfl⟩ : ∃ n : Nat, w' = (n : Int) := ⟨w'.toNat, by omega⟩
  obtain ⟨bn, rfl⟩ : ∃ n : Nat, b' = (n : Int) := ⟨b'.toNat, by omega⟩
  have h1 := List.all_eq_true.mp h wn (List.mem_range.mpr (by omega))
  have h2 := List.all_eq_true.mp h1 bn (List.mem_range.mpr (by omega))
  rw [Bool.or_eq_true, decide_eq_true_iff] at h2
  rcases h2 with h2 | h2
  · rw [decide_eq_true (show k ≤ (os.countP (inSt p (bn : Nat) (wn : Nat)) : Nat) from v)] at h2
    cases h2
  · exact h2
end NM
namespace NM
def farOs : List Int := List.replicate 30 999999999999 ++ List.replicate 30 0
theorem far_least : LeastSt 1000000000000 farOs ((farOs.length : Nat) - 0) 1 999999999999 := by
  refine ⟨by decide, by decide, by decide, by decide, by unfold Valid; decide +kernel, fun w' b' w0 w1 b0 b1 v => ?_⟩
  have l : farOs.length = 60 := by decide +kernel
  unfold Valid at v
  have all : farOs.countP (inSt 1000000000000 b' w') = farOs.length := by
    have := List.countP_le_length (p := inSt 1000000000000 b' w') (l := farOs)
    omega
  rw [List.countP_eq_length] at all
  have h1 := of_decide_eq_true (all 999999999999 (by decide +kernel))
  have h2 := of_decide_eq_true (all 0 (by decide +kernel))
  unfold lexLe
  omega
theorem far_left : leftSt 1000000000000 999999999999 1 farOs = [] := by decide +kernel
theorem far_in : ∀ o ∈ farOs, 0 ≤ o ∧ o < 1000000000000 := by decide +kernel
end NM

namespace My
open PySem PySem.Spec PyProof.Rows L2 StX
def top (i : Nat) : Stmt := PySem.Challenge.pw_wheelreach_k86_least_stretches_of_offset.main.body.getD i (.Pass ⟨0, 0, 0, 0⟩)
abbrev s_is_whole : Stmt := top 6
abbrev s_is_from : Stmt := top 7
abbrev s_is_between : Stmt := top 8
abbrev s_need_from : Stmt := top 10
abbrev s_is_period : Stmt := top 17
abbrev s_need_items : Stmt := top 18
abbrev s_narrowest : Stmt := top 19
abbrev s_stretch_of : Stmt := top 20
abbrev s_least_play : Stmt := top 21
abbrev s_pen : Stmt := top 23
abbrev s_draw : Stmt := top 24
abbrev s_pick : Stmt := top 25
abbrev s_stretch : Stmt := top 26
abbrev s_right : Stmt := top 27
abbrev s_law : Stmt := top 28
abbrev s_Stretch_init : Stmt := inClass (top 16) 0
abbrev s_Stretch_eq : Stmt := inClass (top 16) 1
theorem sc_is_whole : FnScope ["value"] ["value"] (defScope s_is_whole) := ⟨rfl, rfl, rfl, by decide +kernel, rfl, by decide +kernel, by decide +kernel⟩
theorem sc_is_from : FnScope ["value", "low"] ["value", "low"] (defScope s_is_from) := ⟨rfl, rfl, rfl, by decide +kernel, rfl, by decide +kernel, by decide +kernel⟩
theorem sc_is_between : FnScope ["value", "low", "high"] ["value", "low", "high"] (defScope s_is_between) := ⟨rfl, rfl, rfl, by decide +kernel, rfl, by decide +kernel, by decide +kernel⟩
theorem sc_need_from : FnScope ["value", "low"] ["value", "low"] (defScope s_need_from) := ⟨rfl, rfl, rfl, by decide +kernel, rfl, by decide +kernel, by decide +kernel⟩
theorem sc_is_period : FnScope ["value"] ["value"] (defScope s_is_period) := ⟨rfl, rfl, rfl, by decide +kernel, rfl, by decide +kernel, by decide +kernel⟩
theorem sc_need_items : FnScope ["value"] ["value"] (defScope s_need_items) := ⟨rfl, rfl, rfl, by decide +kernel, rfl, by decide +kernel, by decide +kernel⟩
theorem sc_narrowest : FnScope ["period", "offsets", "skip", "needed", "rows", "offset", "width", "begin", "at"] ["period", "offsets", "skip"] (defScope s_narrowest) := ⟨rfl, rfl, rfl, by decide +kernel, rfl, by decide +kernel, by decide +kernel⟩
theorem sc_stretch_of : FnScope ["period", "indexed", "skip", "begin", "width", "at", "offset"] ["period", "indexed", "skip"] (defScope s_stretch_of) := ⟨rfl, rfl, rfl, by decide +kernel, rfl, by decide +kernel, by decide +kernel⟩
theorem sc_least_play : FnScope ["period", "offsets", "skip", "at", "offset"] ["period", "offsets", "skip"] (defScope s_least_play) := ⟨rfl, rfl, rfl, by decide +kernel, rfl, by decide +kernel, by decide +kernel⟩
theorem sc_pen : FnScope ["_law_script"] ["_law_script"] (defScope s_pen) := ⟨rfl, rfl, rfl, by decide +kernel, rfl, by decide +kernel, by decide +kernel⟩
theorem sc_draw : FnScope ["_law_pen_here", "_law_many", "_law_digit", "_law_tick", "_law_cell", "_law_great", "_law_mixed"] ["_law_pen_here", "_law_many"] (defScope s_draw) := ⟨rfl, rfl, rfl, by decide +kernel, rfl, by decide +kernel, by decide +kernel⟩
theorem sc_pick : FnScope ["_law_pen_here", "_law_some"] ["_law_pen_here", "_law_some"] (defScope s_pick) := ⟨rfl, rfl, rfl, by decide +kernel, rfl, by decide +kernel, by decide +kernel⟩
theorem sc_stretch : FnScope ["_law_period", "_law_offsets", "_law_skip", "_law_many", "_law_width", "_law_begin", "_law_left", "_law_at", "_law_offset"] ["_law_period", "_law_offsets", "_law_skip"] (defScope s_stretch) := ⟨rfl, rfl, rfl, by decide +kernel, rfl, by decide +kernel, by decide +kernel⟩
theorem sc_right : FnScope ["_law_pen_here", "_law_period", "_law_skip", "_law_some", "_law_offsets", "_law_turn", "_law_held", "_law_due", "_law_told", "_law_many", "_law_wide", "_law_offset"] ["_law_pen_here"] (defScope s_right) := ⟨rfl, rfl, rfl, by decide +kernel, rfl, by decide +kernel, by decide +kernel⟩
theorem sc_law : FnScope ["_law_script", "_law_pen_here", "_law_turn", "_law_some", "_law_one", "_law_far"] ["_law_script"] (defScope s_law) := ⟨rfl, rfl, rfl, by decide +kernel, rfl, by decide +kernel, by decide +kernel⟩
theorem sc_Stretch_init : FnScope ["self", "begin", "width", "left"] ["self", "begin", "width", "left"] (defScope s_Stretch_init) := ⟨rfl, rfl, rfl, by decide +kernel, rfl, by decide +kernel, by decide +kernel⟩
theorem sc_Stretch_eq : FnScope ["self", "other"] ["self", "other"] (defScope s_Stretch_eq) := ⟨rfl, rfl, rfl, by decide +kernel, rfl, by decide +kernel, by decide +kernel⟩
section
variable {P : Program} {w : World} {K : PySem.W.Frag} {mg : Str → Option Value} {base : Heap}
/-! ### rules and words of our own -/
/-- x(e, ..), x a def whose promise is told of the arguments as they are passed -/
theorem pe_callR {X : Cx} {CX : CXT} {k : Nat} {f : Addr} {sp : Sp} {E : XK} {x : Str} {e : Expr} {es : List Expr} {t : TA} {p pos : Pos} (F : FnR X.prog X.w X.K X.mg X.base CX k f sp) (hr : Room k X.A) (hk : PySem.W.keepIn X.K (.ref f) = true) (hg : Gl X x) (hm : X.mg x = some (.ref f)) (hx : Passes CX X E)
    (ha : PA X (e :: es) t) (hd : (x == ("__debug__" : Str)) = false := by decide) (he : starEach (e :: es) X.env = (false, eval e X.env) :: starEach es X.env := by rfl) (hpl : (backTo pos (starEach es X.env)).any (·.1) = false := by rfl) :
    PE X (.Call (.Name x p) (e :: es) [] pos) (fun σ H Q => t σ H fun vs H1 => sp vs H1 Q E) := by
  refine ⟨fun pins s σ H Q I h => ?_⟩
  refine wpAny_Call_Name_kw (ld_glob I hg hm ?_ hd)
  refine PySem.W.callWith_K (h₀ := X.base) I.ok.mod.kin hk (thn (ha.run pos pins s σ H _ I h) fun us s1 ⟨vs, H1, I1, r, q⟩ => ⟨I1.kIn, ?_⟩) he hpl
  exact wpAny_call (run_fnR F hr hx I1 r q)
theorem pe_callR0 {X : Cx} {CX : CXT} {k : Nat} {f : Addr} {sp : Sp} {E : XK} {x : Str} {p pos : Pos} (F : FnR X.prog X.w X.K X.mg X.base CX k f sp) (hr : Room k X.A) (hk : PySem.W.keepIn X.K (.ref f) = true) (hg : Gl X x) (hm : X.mg x = some (.ref f)) (hx : Passes CX X E)
    (hd : (x == ("__debug__" : Str)) = false := by decide) : PE X (.Call (.Name x p) [] [] pos) (fun σ H Q => sp [] H Q E) := by
  refine ⟨fun pins s σ H Q I h => ?_⟩
  refine wpAny_Call_Name_kw (ld_glob I hg hm ?_ hd)
  exact PySem.W.callWith_K0 I.kIn hk (wpAny_call (run_fnR (us := []) F hr hx I .nil h))
/-- def f(*v) of the text -/
theorem star_ok {P : Program} {w : World} {K : PySem.W.Frag} {mg : Str → Option Value} {base : Heap} {k : Nat} {x qual pv : Str} {st : Stmt} {f : Addr} {fd : FuncData} {N : List Str} {sp : List V → Hp → VK → XK → Prop}
    (F : Fun K x qual st f fd) (S : FnScope N [pv] (defScope st))
    (hb : ∀ (kV doc pm : Value) (an : Option Addr) (cdv ct : Value) (rest : List Value), bindArgs (PySem.W.fnOf x qual (defArgs st) (defBody st) (defScope st) .none kV doc pm an cdv ct) ⟨rest, []⟩ = (newTuple rest >>= fun t => pure [(pv, t)]))
    (hbody : ∀ (cdv : Value) (A : Around) (outer : List Env) (s : Shared) (H : Hp) (vs : List V) (p : Addr) (H0 : Hp) (Q : VK) (E : XK), Room k (A.deeper (envOfC qual (defScope st) s.heap.objs.size f cdv)) → sp vs H0 Q E → vs.length ≤ sizeLine → H0 p = Option.none → H = upd H0 p (.tup vs) →
      ∃ t, PSs (cxOf CX0 P w K mg base N qual (defScope st) f cdv A outer s H E).nox (defBody st) t ∧ t { nx := fun _ H' => Q .non H', rt := Q } (start N [V.ref p]) H) :
    FnR P w K mg base CX0 (k + 1) f (fun vs H Q E => vs.length ≤ sizeLine ∧ sp vs H Q E) := by
  obtain ⟨oc, od, kV, doc, pm, an, cdv, ct, osl, rfl, lk, hcd⟩ := F.ex
  refine FnR.imp (fn_star (ps := []) (pv := pv) (CX := CX0) (sp := fun ws H Q E => ∃ (vs : List V) (p : Addr) (H0 : Hp), ws = [V.ref p] ∧ sp vs H0 Q E ∧ vs.length ≤ sizeLine ∧ H0 p = Option.none ∧ H = upd H0 p (.tup vs)) lk hcd S cxUp_none (fun us rest hl => ?_) fun A outer s H vs Q E hr h => ?_) fun vs H Q E h => ?_
  · have e : us = [] := List.length_eq_zero_iff.mp hl
    subst e
    show bindArgs _ ⟨rest, []⟩ = _
    rw [hb]
    rfl
  · obtain ⟨ws, p, H0, rfl, hs, hl, hp, rfl⟩ := h
    obtain ⟨t, ht, hq⟩ := hbody cdv A outer s _ ws p H0 Q E hr hs hl hp rfl
    exact ⟨t, ht.nox, hq⟩
  · exact ⟨[], vs, rfl, rfl, h.1, fun p hp => ⟨vs, p, H, rfl, h.2, h.1, hp, rfl⟩⟩
/-- all but p is as it was -/
structure Fr (p : Addr) (H H' : Hp) : Prop where
  keep : ∀ b o, b ≠ p → H b = some o → H' b = some o
  head : ∀ v xs, H p = some (.lst (v :: xs)) → ∃ ys, H' p = some (.lst (v :: ys))
instance {p : Addr} {H H' : Hp} : CoeFun (Fr p H H') fun _ => ∀ b o, b ≠ p → H b = some o → H' b = some o := ⟨Fr.keep⟩
theorem Fr.refl (p : Addr) (H : Hp) : Fr p H H := ⟨fun _ _ _ h => h, fun _ xs h => ⟨xs, h⟩⟩
theorem Fr.trans {p : Addr} {H H1 H2 : Hp} (a : Fr p H H1) (b : Fr p H1 H2) : Fr p H H2 := ⟨fun c o n h => b.keep c o n (a.keep c o n h), fun v xs h => by
  obtain ⟨ys, h1⟩ := a.head v xs h
  exact b.head v ys h1⟩
theorem same_fr {p : Addr} {H H' : Hp} (s : Same H H') : Fr p H H' := ⟨fun b o _ h => s b o h, fun _ xs h => ⟨xs, s _ _ h⟩⟩
theorem same_new {H : Hp} {p : Addr} {o : HO} (h : H p = Option.none) : Same H (upd H p o) := fun b u e => by
  rw [upd_ne (ne_of_none e h)]; exact e
theorem fr_upd {H : Hp} {p : Addr} {v : V} {xs ys : List V} (hp : H p = some (.lst (v :: xs))) : Fr p H (upd H p (.lst (v :: ys))) := ⟨fun b u n e => by rw [upd_ne n]; exact e, fun v' xs' e => by
  rw [hp] at e
  cases e
  exact ⟨ys, upd_same⟩⟩
theorem Fr.seq {K : PySem.W.Frag} {p a : Addr} {H H' : Hp} {xs : List V} (e : Fr p H H') (n : a ≠ p) (h : SqL K H a xs) : SqL K H' a xs := by
  rcases h with (h | ⟨o, h⟩) | h
  · exact .inl (.inl (e _ _ n h))
  · exact .inl (.inr ⟨o, e _ _ n h⟩)
  · exact .inr h
/-- the state of the draws: the cells, the index, what is left of a great one -/
def Pen (H : Hp) (p : Addr) (n : Nat) : Prop := ∃ (c : Addr) (ns : List Int) (i g : Int), H p = some (.lst [.ref c, .int i, .int g]) ∧ H c = some (.lst (ns.map V.int)) ∧ 0 ≤ i ∧ i ≤ (n : Int) ∧ 0 ≤ g ∧ ns.length ≤ 63
theorem Pen.same {H H' : Hp} {p : Addr} {n : Nat} (h : Pen H p n) (s : Same H H') : Pen H' p n := by
  obtain ⟨c, ns, i, g, h1, h2, h3⟩ := h
  exact ⟨c, ns, i, g, s _ _ h1, s _ _ h2, h3⟩
theorem Pen.mono {H : Hp} {p : Addr} {n m : Nat} (h : Pen H p n) (l : n ≤ m) : Pen H p m := by
  obtain ⟨c, ns, i, g, h1, h2, h3, h4, h5⟩ := h
  exact ⟨c, ns, i, g, h1, h2, h3, by omega, h5⟩
theorem pen_ne {H : Hp} {p c : Addr} {x y : V} {a : Addr} {ns : List Int} (h1 : H p = some (.lst [.ref a, x, y])) (h2 : H c = some (.lst (ns.map V.int))) : c ≠ p := fun e => by
  rw [e, h1] at h2
  cases ns with
  | nil => cases h2
  | cons z r => injection h2 with h2; injection h2 with h2; injection h2 with h2; cases h2
theorem Pen.at {H : Hp} {p : Addr} {n : Nat} (h : Pen H p n) : ∃ xs, H p = some (.lst xs) := by
  obtain ⟨c, ns, i, g, h1, _⟩ := h
  exact ⟨_, h1⟩
theorem Pen.neq {H : Hp} {p a : Addr} {n : Nat} (h : Pen H p n) (e : H a = Option.none) : a ≠ p := fun z => by
  obtain ⟨xs, h⟩ := h.at
  rw [z, h] at e; cases e
theorem if_true_of {c : Bool} {A B : Prop} (hc : c = true) (h : A) : if c = true then A else B := by
  rw [if_pos hc]; exact h
theorem if_false_of {c : Bool} {A B : Prop} (hc : c = false) (h : B) : if c = true then A else B := by
  rw [hc, if_neg Bool.false_ne_true]; exact h
theorem atI_in {ns : List Int} {j : Int} (h0 : 0 ≤ j) (h1 : j < (ns.length : Int)) : ∃ z, atI (ns.map V.int) j = some (V.int z) := by
  have h : j.toNat < ns.length := by omega
  exact ⟨ns[j.toNat], at_of (j := j.toNat) (by omega) (by rw [List.getElem?_map]; simp [h])⟩
theorem atI_any {xs : List V} {j : Int} (h0 : 0 ≤ j) (h1 : j < (xs.length : Int)) : ∃ z, z ∈ xs ∧ atI xs j = some z := by
  have h : j.toNat < xs.length := by omega
  exact ⟨xs[j.toNat], List.getElem_mem h, at_of (j := j.toNat) (by omega) (by simp [h])⟩
theorem cut_ints (ns : List Int) (lo hi : Option Int) : ∃ ms : List Int, cutV (ns.map V.int) lo hi = ms.map V.int ∧ ms.length ≤ ns.length := by
  refine ⟨(ns.drop (HT.sIx (ns.map V.int).length 0 lo)).take (HT.sIx (ns.map V.int).length (ns.map V.int).length hi - HT.sIx (ns.map V.int).length 0 lo), ?_, ?_⟩
  · unfold cutV
    rw [List.map_take, List.map_drop]
  · rw [List.length_take, List.length_drop]
    omega
theorem stir1 {r b d e : Int} (h0 : 0 ≤ r) (h1 : r < 2147483648) (b0 : 0 ≤ b) (b1 : b ≤ 100000) (d0 : 0 ≤ d) (d1 : d ≤ 100000) (e0 : 0 ≤ e) (e1 : e ≤ 100000) : (r + d * b + e).natAbs < 2 ^ 64 := by
  have h2 := Int.mul_nonneg d0 b0
  have h3 : d * b ≤ d * 100000 := Int.mul_le_mul_of_nonneg_left b1 d0
  omega
theorem stir2 {s b c d e : Int} (h0 : 0 ≤ s) (h1 : s < 2147483648) (b0 : 0 ≤ b) (b1 : b ≤ 100000) (c0 : 0 ≤ c) (c1 : c ≤ 100000) (d0 : 0 ≤ d) (d1 : d ≤ 100000) (e0 : 0 ≤ e) (e1 : e ≤ 100000) : (s * (2 * b + c) + d * b * b + e).natAbs < 2 ^ 64 := by
  have h2 := Int.mul_nonneg h0 (show 0 ≤ 2 * b + c by omega)
  have h3 : s * (2 * b + c) ≤ 2147483648 * (2 * b + c) := Int.mul_le_mul_of_nonneg_right (by omega) (by omega)
  have h4 := Int.mul_nonneg d0 b0
  have h5 := Int.mul_nonneg h4 b0
  have h6 : d * b ≤ d * 100000 := Int.mul_le_mul_of_nonneg_left b1 d0
  have h7 : d * b * b ≤ d * b * 100000 := Int.mul_le_mul_of_nonneg_left b1 h4
  omega
theorem small64 {i : Int} (h0 : 0 ≤ i) (h1 : i < 2147483648) : -(2 ^ 64) < i ∧ i < 2 ^ 64 := by omega
theorem fmod_pos {x m : Int} (hm : 0 < m) : 0 ≤ x.fmod m ∧ x.fmod m < m := by
  rw [Int.fmod_eq_emod_of_nonneg x (by omega)]
  exact ⟨Int.emod_nonneg _ (by omega), Int.emod_lt_of_pos _ hm⟩
theorem dp_ints {K : PySem.W.Frag} {H : Hp} : ∀ ns : List Int, DpAll K H (ns.map V.int) (ns.map PyData.int)
  | [] => .nil
  | z :: r => .cons (.int z) (dp_ints r)
theorem eqvAll_ints : ∀ ns : List Int, PyData.eqvAll (ns.map PyData.int) (ns.map PyData.int) = true
  | [] => by simp [PyData.eqvAll]
  | z :: r => by simp [PyData.eqvAll, PyData.eqv, eqvAll_ints r]
theorem eqv_ints (ns : List Int) : PyData.eqv (.list (ns.map PyData.int)) (.list (ns.map PyData.int)) = true := by
  rw [PyData.eqv]; exact eqvAll_ints ns

/-- the target a, b within a comprehension: told of the written part and of the number of names -/
theorem pg_tup2 {X : Cx} {es : List Expr} {k : Nat} {t : TGs} {pos : Pos} (K : PySem.W.Frag) (n : Nat) (hK : X.K = K) (hc : X.calm = true) (h : PGs X es t) (hn : (assignEach es X.env).length = n := by rfl) (hst : (assignEach es X.env).findIdx? (·.1) = none := by rfl) : PG X (.Tuple es k pos) (gTup K n t) := by
  subst hK
  exact pg_tup hc h hn hst
theorem ix_tup2 {X : Cx} (K : PySem.W.Frag) (hK : X.K = K) : IxR X (rIxT K) := by
  subst hK
  exact ix_tup
theorem ix_list2 {X : Cx} (K : PySem.W.Frag) (hK : X.K = K) : IxR X (rIxL K) := by
  subst hK
  exact ix_list
theorem op_eqD2 {X : Cx} (K : PySem.W.Frag) (hK : X.K = K) (hu : X.A.units + 64 < cLine) : OpR X (compareOp .Eq) (rEqD K) := by
  subst hK
  exact op_eqD hu
theorem sl_list2 {X : Cx} (K : PySem.W.Frag) (hK : X.K = K) : SlR X (rSlL K) := by
  subst hK
  exact sl_list
theorem op_in_seq2 {X : Cx} (K : PySem.W.Frag) (hK : X.K = K) : OpR X (compareOp .In) (rIn K false) := by
  subst hK
  exact op_in_seq
theorem op_notIn_seq2 {X : Cx} (K : PySem.W.Frag) (hK : X.K = K) : OpR X (compareOp .NotIn) (rIn K true) := by
  subst hK
  exact op_notIn_seq

/-! ### values by kinds; numbers that are refused -/
/-- v is of the built-in kind t -/
inductive NT (H : Hp) : V → String → Prop where
  | non : NT H .non "NoneType"
  | bl (b : Bool) : NT H (.bl b) "bool"
  | int (i : Int) : NT H (.int i) "int"
  | str (x : Str) : NT H (.str x) "str"
  | lst {a : Addr} {xs : List V} : H a = some (.lst xs) → NT H (.ref a) "list"
  | tup {a : Addr} {xs : List V} : H a = some (.tup xs) → NT H (.ref a) "tuple"
  | dic {a : Addr} {kvs : List (Key × V)} : H a = some (.dK kvs) → NT H (.ref a) "dict"
theorem NT.same {H H' : Hp} (s : Same H H') {v : V} {t : String} (h : NT H v t) : NT H' v t := by
  cases h with
  | non => exact .non
  | bl b => exact .bl b
  | int i => exact .int i
  | str x => exact .str x
  | lst e => exact .lst (s _ _ e)
  | tup e => exact .tup (s _ _ e)
  | dic e => exact .dic (s _ _ e)
theorem NT.ty {K : PySem.W.Frag} {H : Hp} {v : V} {t : String} (h : NT H v t) : TyX K H v (.type t) := by
  cases h with
  | non => exact .base .non
  | bl b => exact .base (.bl b)
  | int i => exact .base (.int i)
  | str x => exact .base (.str x)
  | lst e => exact .base (.lst e)
  | tup e => exact .base (.tup e)
  | dic e => exact .base (.dK e)
theorem NT.kit {H : Hp} {v : V} {t : String} (h : NT H v t) : ∃ b1 b2, kitB t "int" = some b1 ∧ kitB t "bool" = some b2 ∧ (b1 && !b2) = (t == "int") := by
  cases h with
  | non => exact ⟨false, false, by decide +kernel, by decide +kernel, by decide +kernel⟩
  | bl b => exact ⟨true, true, by decide +kernel, by decide +kernel, by decide +kernel⟩
  | int i => exact ⟨true, false, by decide +kernel, by decide +kernel, by decide +kernel⟩
  | str x => exact ⟨false, false, by decide +kernel, by decide +kernel, by decide +kernel⟩
  | lst e => exact ⟨false, false, by decide +kernel, by decide +kernel, by decide +kernel⟩
  | tup e => exact ⟨false, false, by decide +kernel, by decide +kernel, by decide +kernel⟩
  | dic e => exact ⟨false, false, by decide +kernel, by decide +kernel, by decide +kernel⟩
theorem NT.tupB {H : Hp} {v : V} {t : String} (h : NT H v t) : kitB t "tuple" = some (t == "tuple") := by
  cases h <;> decide +kernel
theorem NT.isInt {H : Hp} {v : V} {t : String} (h : NT H v t) (e : t = "int") : ∃ i, v = .int i := by
  cases h with
  | int i => exact ⟨i, rfl⟩
  | _ => exact absurd e (by decide)
/-- def f(*v) of the text, which may raise -/
theorem star_okX {x qual pv : Str} {k : Nat} {st : Stmt} {f : Addr} {fd : FuncData} {N : List Str} {sp : List V → Hp → VK → XK → Prop}
    (F : Fun K x qual st f fd) (S : FnScope N [pv] (defScope st))
    (hb : ∀ (kV doc pm : Value) (an : Option Addr) (cdv ct : Value) (rest : List Value), bindArgs (PySem.W.fnOf x qual (defArgs st) (defBody st) (defScope st) .none kV doc pm an cdv ct) { pos := rest, kw := [] } = (newTuple rest >>= fun t => pure [(pv, t)]))
    (go : ∀ (cdv : Value) (A : Around) (outer : List Env) (s : Shared) (H : Hp) (vs : List V) (p : Addr) (H0 : Hp) (Q : VK) (E : XK), Room k (A.deeper (envOfC qual (defScope st) s.heap.objs.size f cdv)) → sp vs H0 Q E → vs.length ≤ sizeLine → H0 p = Option.none → H = upd H0 p (.tup vs) →
      ∃ t, PSs (cxOf (L2.CX P w) P w K mg base N qual (defScope st) f cdv A outer s H E) (defBody st) t ∧ t { nx := fun _ H1 => Q .non H1, rt := Q } (start N [V.ref p]) H) :
    FnR P w K mg base (L2.CX P w) (k + 1) f (fun vs H Q E => vs.length ≤ sizeLine ∧ sp vs H Q E) := by
  obtain ⟨oc, od, kV, doc, pm, an, cdv, ct, osl, e, lk, hcd⟩ := F.ex
  subst e
  refine FnR.imp (fn_star (ps := []) (pv := pv) (CX := L2.CX P w) (sp := fun ws H Q E => ∃ (vs : List V) (p : Addr) (H0 : Hp), ws = [V.ref p] ∧ sp vs H0 Q E ∧ vs.length ≤ sizeLine ∧ H0 p = Option.none ∧ H = upd H0 p (.tup vs)) lk hcd S cxUp (fun us rest hl => ?_) fun A outer s H vs Q E hr h => ?_) fun vs H Q E h => ?_
  · have e : us = [] := List.length_eq_zero_iff.mp hl
    subst e
    show bindArgs _ { pos := rest, kw := [] } = _
    rw [hb]
    rfl
  · obtain ⟨ws, p, H0, rfl, hs, hl, hp, rfl⟩ := h
    exact go cdv A outer s _ ws p H0 Q E hr hs hl hp rfl
  · exact ⟨[], vs, rfl, rfl, h.1, fun p hp => ⟨vs, p, H, rfl, h.2, h.1, hp, rfl⟩⟩

/-! ### the list of an enumerate, over a list or a tuple -/
section
variable {pr : Program} {wd : World} {B : Around} {EE : Value → Shared → Prop} {j : Addr} {fp : List Addr} {n : Nat} {Pd : Nat → Value → Prop} {Sd : Nat → Heap → Prop}
/-- it has given no pair that still counts, or its last pair is held elsewhere -/
def EnAt (h : Heap) (e j : Addr) (c : Int) : Prop := (∃ last, IsEnum h e j c last) ∨ ∃ (last : Value) (T : Addr) (f : Bool) (oT : Obj), IsEnumHeld h e j c last T f ∧ h.get? T = some oT ∧ T ≠ e ∧ T ≠ j
theorem EnAt.obj {h : Heap} {e : Addr} {c : Int} (x : EnAt h e j c) : ∃ o, h.get? e = some o ∧ o.cls = .type "enumerate" ∧ ∃ v, o.data = .fields v := by
  rcases x with ⟨_, q⟩ | ⟨_, _, _, _, q, _⟩
  · exact ⟨_, q, rfl, _, rfl⟩
  · exact ⟨_, q, rfl, _, rfl⟩
theorem EnAt.keep {h h' : Heap} {e : Addr} {c : Int} (x : EnAt h e j c) (k : ∀ b o, h.get? b = some o → (b = e ∨ (b ≠ e ∧ b ≠ j)) → ∃ o', h'.get? b = some o' ∧ (b = e → o' = o)) : EnAt h' e j c := by
  rcases x with ⟨last, q⟩ | ⟨last, T, f, oT, q, t1, t2, t3⟩
  · obtain ⟨o', q1, q2⟩ := k e _ q (.inl rfl)
    exact .inl ⟨last, by rw [q2 rfl] at q1; exact q1⟩
  · obtain ⟨o', q1, q2⟩ := k e _ q (.inl rfl)
    obtain ⟨oT', q3, _⟩ := k T _ t1 (.inr ⟨t2, t3⟩)
    exact .inr ⟨last, T, f, oT', by rw [q2 rfl] at q1; exact q1, q3, t2, t3⟩
theorem held_pair {z : Shared} {e T : Addr} {i : Nat} {last : Value} {f : Bool} {oT : Obj} {Q : Value → Shared → Prop} (D : Draws pr wd B j fp n Pd Sd) (he : IsEnumHeld z.heap e j i last T f) (hT : z.heap.get? T = some oT) (hTe : T ≠ e) (hTj : T ≠ j) (hst : Sd i z.heap) (hlt : i < n) (hne : e ≠ j) (hef : e ∉ fp)
    (hQ : ∀ x g' k, Pd i x → EnAt g' e j ((i : Int) + 1) → Sd (i + 1) g' → g'.get? z.heap.objs.size = some { cls := .type "tuple", data := .seq #[.int i k, x] } → g'.objs.size = z.heap.objs.size + 1 → (∀ b o, b ≠ e → b ≠ j → z.heap.get? b = some o → g'.get? b = some o) →
      Q (.ref z.heap.objs.size) { z with heap := g', toks := k + 1 }) : wpAny (model pr wd) B (Builtin.«enumerate.__next__» ⟨[.ref e], []⟩) (fun fin z' => ∃ v, fin = .done (.ret v) ∧ Q v z') EE z := by
  obtain ⟨h0, gg, dd, k0, os⟩ := z
  show wpAny _ _ (field (.ref e) 2 >>= _) _ _ _
  refine wpAny_bind (wpAny_field he rfl (x := .ref j) rfl (wpAny_bind (D.item i _ _ _ hlt hst fun x g1 k1 hPx st1 sb1 => ?_)))
  have sb1 : Heap.SameBut j h0 g1 := sb1
  have e1 : IsEnumHeld g1 e j i last T f := (sb1.2 e hne).trans he
  show wpAny _ _ (field (.ref e) 3 >>= _) _ _ ⟨g1, gg, dd, k1, os⟩
  refine wpAny_bind (wpAny_field e1 rfl (x := rawInt i) rfl ?_)
  show wpAny _ _ (field (.ref e) 4 >>= _) _ _ ⟨g1, gg, dd, k1, os⟩
  refine wpAny_bind (wpAny_field e1 rfl (x := .none) rfl ?_)
  show wpAny _ _ (mkInt i >>= _) _ _ ⟨g1, gg, dd, k1, os⟩
  refine wpAny_bind (wpAny_mkInt ?_)
  show wpAny _ _ (setField (.ref e) 3 (rawInt ((i : Int) + 1)) >>= _) _ _ ⟨g1, gg, dd, k1 + 1, os⟩
  refine wpAny_bind (wpAny_setField_rec e1 (by simp) fun g2 e2 sb2 => ?_)
  have sb2 : Heap.SameBut e g1 g2 := sb2
  have e2 : IsEnumHeld g2 e j ((i : Int) + 1) last T f := e2
  show wpAny _ _ (setField (.ref e) 4 .none >>= _) _ _ ⟨g2, gg, dd, k1 + 1, os⟩
  refine wpAny_bind (wpAny_setField_rec e2 (by simp) fun g3 e3 sb3 => ?_)
  have sb3 : Heap.SameBut e g2 g3 := sb3
  have e3 : IsEnumHeld g3 e j ((i : Int) + 1) last T f := e3
  show wpAny _ _ (newTuple [.int i k1, x] >>= _) _ _ ⟨g3, gg, dd, k1 + 1, os⟩
  refine wpAny_bind (wpAny_newTuple ?_)
  have size3 : g3.objs.size = h0.objs.size := by rw [sb3.1, sb2.1, sb1.1]
  have elt : e < h0.objs.size := Heap.lt_size he
  have e4 : IsEnumHeld (g3.push { cls := .type "tuple", data := .seq #[.int i k1, x] }) e j ((i : Int) + 1) last T f := Heap.get?_push_of_some _ e3
  have t4 : (g3.push { cls := .type "tuple", data := .seq #[.int i k1, x] }).get? h0.objs.size = some { cls := .type "tuple", data := .seq #[.int i k1, x] } := by rw [← size3]; exact Heap.get?_push_size _ rfl
  have z4 : (g3.push { cls := .type "tuple", data := .seq #[.int i k1, x] }).objs.size = h0.objs.size + 1 := by rw [Heap.size_push, size3]
  have keep4 : ∀ b o, b ≠ e → b ≠ j → h0.get? b = some o → (g3.push { cls := .type "tuple", data := .seq #[.int i k1, x] }).get? b = some o := fun b o b1 b2 hb => Heap.get?_push_of_some _ (sb3.extBut b o b1 (sb2.extBut b o b1 (sb1.extBut b o b2 hb)))
  have st4 : Sd (i + 1) (g3.push { cls := .type "tuple", data := .seq #[.int i k1, x] }) := D.frame _ _ _ st1 fun b hb o y => by
    have b1 : b ≠ e := fun q => hef (q ▸ hb)
    exact Heap.get?_push_of_some _ (sb3.extBut b o b1 (sb2.extBut b o b1 y))
  rw [size3]
  generalize g3.push { cls := .type "tuple", data := .seq #[.int i k1, x] } = g4 at e4 t4 z4 keep4 st4 ⊢
  show wpAny _ _ (Builtin.SmallTypes.ownedTupleIsFree (.ref e) >>= _) _ _ ⟨g4, gg, dd, k1 + 1, os⟩
  refine wpAny_bind (wpAny_tupleHeld_enum (s := ⟨g4, gg, dd, k1 + 1, os⟩) e4 (keep4 T oT hTe hTj hT) fun g5 e5 sb5 => ?_)
  have sb5 : Heap.SameBut e g4 g5 := sb5
  simp only [Bool.false_eq_true, if_false]
  refine wpAny_pure ⟨_, rfl, hQ x g5 k1 hPx (.inr ⟨_, T, true, oT, e5, sb5.extBut T oT hTe (keep4 T oT hTe hTj hT), hTe, hTj⟩) ?_ (sb5.extBut _ _ (Nat.ne_of_gt elt) t4) ?_ fun b o b1 b2 hb => sb5.extBut b o b1 (keep4 b o b1 b2 hb)⟩
  · exact D.frame _ _ _ st4 fun b hb o y => sb5.extBut b o (fun q => hef (q ▸ hb)) y
  · show g5.objs.size = h0.objs.size + 1
    rw [sb5.1, z4]
/-- the next pair -/
theorem en_item {z : Shared} {e : Addr} {i : Nat} {Q : Option Value → Shared → Prop} (D : Draws pr wd B.in1 j fp n Pd Sd) (he : EnAt z.heap e j i) (hst : Sd i z.heap) (hlt : i < n) (hne : e ≠ j) (hef : e ∉ fp) (hjs : j < z.heap.objs.size)
    (hQ : ∀ x g' k, Pd i x → EnAt g' e j ((i : Int) + 1) → Sd (i + 1) g' → g'.get? z.heap.objs.size = some { cls := .type "tuple", data := .seq #[.int i k, x] } → g'.objs.size = z.heap.objs.size + 1 → (∀ b o, b ≠ e → b ≠ j → z.heap.get? b = some o → g'.get? b = some o) →
      Q (some (.ref z.heap.objs.size)) { z with heap := g', toks := k + 1 }) : wpAny (model pr wd) B (pyNext (.ref e)) Q EE z := by
  obtain ⟨oe, oe1, oe2, _⟩ := he.obj
  have elt : e < z.heap.objs.size := Heap.lt_size oe1
  rcases he with ⟨last, q⟩ | ⟨last, T, f, oT, q, t1, t2, t3⟩
  · refine wpAny_pyNext_enum_itemD D q hst hlt hne hef fun x g' k a1 a2 a3 a4 a5 a6 => hQ x g' k a1 (.inr ⟨_, _, false, _, a2, a4, Nat.ne_of_gt elt, Nat.ne_of_gt hjs⟩) a3 a4 a5 a6
  · have hTy : z.TypeIs (.ref e) "enumerate" := ⟨_, q, rfl⟩
    unfold pyNext
    refine wpAny_bind (wpAny_attempt (wpAny_callSpecial?_slot (name := Str.ofString "__next__") hTy F.slot_enumerate_next ?_))
    exact wpAny_call_entry F.slot_enumerate_next hTy F.entry_enumerate_next (held_pair D q t1 t2 t3 hst hlt hne hef fun x g' k a1 a2 a3 a4 a5 a6 => wpAny_pure (hQ x g' k a1 a2 a3 a4 a5 a6)) (F.args_enumerate_next_1 _)
/-- it has no pair more -/
theorem en_end {z : Shared} {e : Addr} {c : Int} {Q : Option Value → Shared → Prop} (D : Draws pr wd B.in1 j fp n Pd Sd) (he : EnAt z.heap e j c) (hst : Sd n z.heap) (hQ : ∀ g', Heap.ExtBut j z.heap g' → Q none { z with heap := g' }) : wpAny (model pr wd) B (pyNext (.ref e)) Q EE z := by
  rcases he with ⟨last, q⟩ | ⟨last, T, f, oT, q, _⟩
  · exact wpAny_pyNext_enum_endD D q hst hQ
  · have hTy : z.TypeIs (.ref e) "enumerate" := ⟨_, q, rfl⟩
    unfold pyNext
    refine wpAny_bind (wpAny_attempt (wpAny_callSpecial?_slot (name := Str.ofString "__next__") hTy F.slot_enumerate_next ?_))
    refine wpAny_call_entry F.slot_enumerate_next hTy F.entry_enumerate_next ?_ (F.args_enumerate_next_1 _)
    show wpAny _ _ (field (.ref e) 2 >>= _) _ _ _
    refine wpAny_bind (wpAny_field q rfl (x := .ref j) rfl (wpAny_bind (D.done _ _ _ hst fun g' x eg hx => ?_)))
    obtain ⟨ox, ox1, ox2⟩ := hx
    exact wpAny_bind (wpAny_isInstance (T := "StopIteration") (b := true) ⟨ox, ox1, ox2⟩ isSubtype_stop (wpAny_pure (hQ _ eg)))
/-- the pairs of the list from place i on -/
def PairsFrom (Pd : Nat → Value → Prop) (h : Heap) (i : Nat) (ts : List Addr) : Prop := ∀ (a : Nat) (T : Addr), ts[a]? = some T → ∃ x k, Pd (i + a) x ∧ h.get? T = some { cls := .type "tuple", data := .seq #[.int ((i + a : Nat) : Int) k, x] }
theorem enum_no_len : typeLookup (.type "enumerate") "__len__" = pure none := am_miss_of_fast (by decide +kernel)
theorem enum_no_hint : typeLookup (.type "enumerate") "__length_hint__" = pure none := am_miss_of_fast (by decide +kernel)
theorem en_fill (D : Draws pr wd B.in1.in1 j fp n Pd Sd) (hn : n ≤ sizeLine) (S e : Addr) (hne : e ≠ j) (hef : e ∉ fp) (hSf : S ∉ fp) (hjf : j ∈ fp) (hSe : S ≠ e) (res : Value) {R : Result → Shared → Prop} :
    ∀ (m i : Nat) (z : Shared) (acc : Array Value) (c : Nat), n - i = m → i ≤ n → EnAt z.heap e j i → Sd i z.heap → z.heap.get? S = some { cls := .type "list", dict := none, data := .seq acc c, slots := #[] } → acc.size = i →
      (∀ g k (ts : List Addr) c', ts.length = m → (∀ b o, b ≠ S → b ≠ e → b ≠ j → z.heap.get? b = some o → g.get? b = some o) → (∀ T ∈ ts, z.heap.objs.size ≤ T) → ts.Nodup → PairsFrom Pd g i ts →
        g.get? S = some { cls := .type "list", dict := none, data := .seq (acc ++ (ts.map Value.ref).toArray) c', slots := #[] } → R (.ok (.ret res)) { z with heap := g, toks := k }) → codeAny (model pr wd) B (.builtin "list.extend.loop" ⟨[.ref S, .ref e, res], []⟩) R z := by
  have hSj : S ≠ j := fun q => hSf (q ▸ hjf)
  intro m
  induction m with
  | zero =>
    intro i z acc c hm hi hE hst hS ha hR
    obtain rfl : i = n := by omega
    refine codeAny_builtin F.entry_extend_loop ?_
    rw [Around.under_plainId F.plain_extend_loop _]
    show wpAny _ B.in1 (pyNext (.ref e) >>= _) _ _ z
    refine wpAny_bind (en_end D hE hst fun g eb => wpAny_pure ?_)
    exact hR g z.toks [] c rfl (fun b o _ _ b3 q => eb b o b3 q) (fun T hT => absurd hT List.not_mem_nil) List.nodup_nil (fun a T q => by simp at q) (by rw [show acc ++ (([] : List Addr).map Value.ref).toArray = acc by simp]; exact eb S _ hSj hS)
  | succ m ih =>
    intro i z acc c hm hi hE hst hS ha hR
    have hlt : i < n := by omega
    obtain ⟨oj, oj1⟩ := D.live _ _ hst
    have hjs : j < z.heap.objs.size := Heap.lt_size oj1
    have hSs : S < z.heap.objs.size := Heap.lt_size hS
    obtain ⟨oe, oe1, _⟩ := hE.obj
    have hes : e < z.heap.objs.size := Heap.lt_size oe1
    refine codeAny_builtin F.entry_extend_loop ?_
    rw [Around.under_plainId F.plain_extend_loop _]
    show wpAny _ B.in1 (pyNext (.ref e) >>= _) _ _ z
    refine wpAny_bind (en_item D hE hst hlt hne hef hjs fun x g k hP hE2 hst2 hT hz keep => ?_)
    have hS2 := keep S _ hSe hSj hS
    show wpAny _ B.in1 (updateSeq S (·.push (.ref z.heap.objs.size)) >>= _) _ _ _
    refine wpAny_bind (wpAny_updateSeq hS2 rfl (wpAny_pure ⟨plainId_quiet F.plain_extend_loop _, ?_⟩) (by rw [ha]; omega) (by show (acc.push _).size ≤ sizeLine + 1; rw [Array.size_push, ha]; omega))
    have hS3 := Heap.get?_update_self (Obj.mapSeq (·.push (Value.ref z.heap.objs.size))) hS2 rfl
    have oth : ∀ b o, b ≠ S → g.get? b = some o → (g.update S (Obj.mapSeq (·.push (Value.ref z.heap.objs.size)))).get? b = some o := fun b o hb q => (Heap.get?_update_other _ _ (Ne.symm hb)).trans q
    have hz3 : (g.update S (Obj.mapSeq (·.push (Value.ref z.heap.objs.size)))).objs.size = z.heap.objs.size + 1 := by rw [← hz]; simp [Heap.update]
    generalize g.update S (Obj.mapSeq (·.push (Value.ref z.heap.objs.size))) = g3 at hS3 oth hz3
    refine ih (i + 1) _ (acc.push (.ref z.heap.objs.size)) _ (by omega) hlt (hE2.keep fun b o q _ => ?_) (D.frame _ _ _ hst2 fun b hb o q => oth b o (fun y => hSf (y ▸ hb)) q) hS3 (by rw [Array.size_push, ha]) fun g4 k4 ts c4 hl keep4 above nd pairs hS4 => ?_
    · by_cases hb : b = S
      · exact ⟨_, by rw [hb]; exact hS3, fun y => absurd (hb.symm.trans y) hSe⟩
      · exact ⟨o, oth b o hb q, fun _ => rfl⟩
    · have above : ∀ T ∈ ts, z.heap.objs.size + 1 ≤ T := fun T h => by have := above T h; rw [show (Shared.heap _).objs.size = _ from hz3] at this; exact this
      have hT4 := keep4 _ _ (Nat.ne_of_gt hSs) (Nat.ne_of_gt hes) (Nat.ne_of_gt hjs) (oth _ _ (Nat.ne_of_gt hSs) hT)
      refine hR g4 k4 (z.heap.objs.size :: ts) c4 (by rw [List.length_cons, hl]) (fun b o b1 b2 b3 q => keep4 b o b1 b2 b3 (oth b o b1 (keep b o b2 b3 q))) ?_ ?_ ?_ ?_
      · intro T h
        rcases List.mem_cons.mp h with y | y
        · exact Nat.le_of_eq y.symm
        · have := above T y; omega
      · exact List.nodup_cons.mpr ⟨fun h => by have := above _ h; omega, nd⟩
      · intro a T q
        match a, q with
        | 0, q => cases q; exact ⟨x, k, hP, hT4⟩
        | a + 1, q =>
          obtain ⟨y, k', y1, y2⟩ := pairs a T q
          rw [show i + 1 + a = i + (a + 1) by omega] at y1 y2
          exact ⟨y, k', y1, y2⟩
      · rw [hS4]
        simp
/-- list(e), e an enumerate that has given nothing -/
theorem call_listEn {z : Shared} {e : Addr} {Q : Value → Shared → Prop} (D : Draws pr wd B.in1.in1.in1 j fp n Pd Sd) (hn : n ≤ sizeLine) (he : IsEnum z.heap e j 0 .none) (hst : Sd 0 z.heap) (hne : e ≠ j) (hef : e ∉ fp) (hjf : j ∈ fp) (hfp : ∀ b ∈ fp, b < z.heap.objs.size)
    (hQ : ∀ g k (ts : List Addr) c', ts.length = n → (∀ b o, b ≠ e → b ≠ j → z.heap.get? b = some o → g.get? b = some o) → (∀ T ∈ ts, z.heap.objs.size < T) → ts.Nodup → PairsFrom Pd g 0 ts →
      g.get? z.heap.objs.size = some { cls := .type "list", dict := none, data := .seq (ts.map Value.ref).toArray c', slots := #[] } → Q (.ref z.heap.objs.size) { z with heap := g, toks := k }) : wpAny (model pr wd) B (call (.type "list") [.ref e]) Q EE z := by
  have hSf : z.heap.objs.size ∉ fp := fun q => Nat.lt_irrefl _ (hfp _ q)
  have hes : e < z.heap.objs.size := Heap.lt_size he
  have hSe : z.heap.objs.size ≠ e := Nat.ne_of_gt hes
  refine callType_codes (Q₁ := fun o1 z1 => o1 = .ref z.heap.objs.size ∧ z1 = { z with heap := z.heap.push { cls := .type "list", data := .seq #[] } }) F.called_list (F.typeCall_list_1 _) F.entry_list_init (code_list_new _ ⟨rfl, rfl⟩) ?_
  rintro o1 z1 ⟨rfl, rfl⟩
  have new0 : (z.heap.push { cls := .type "list", data := .seq #[] }).get? z.heap.objs.size = some { cls := .type "list", data := .seq #[] } := Heap.get?_push_size _ rfl
  have old0 : ∀ b o, z.heap.get? b = some o → (z.heap.push { cls := .type "list", data := .seq #[] }).get? b = some o := fun b o q => Heap.get?_push_of_some _ q
  have sz0 : (z.heap.push { cls := .type "list", data := .seq #[] }).objs.size = z.heap.objs.size + 1 := Heap.size_push ..
  refine ⟨⟨_, new0, rfl⟩, F.args_list_init_2 _ _, ?_⟩
  generalize z.heap.push { cls := .type "list", data := .seq #[] } = g0 at new0 old0 sz0
  show wpAny _ B.in1.in1 (Builtin.List.listItems (.ref z.heap.objs.size) >>= fun old => Builtin.List.listUpdate (.ref z.heap.objs.size) (fun _ => #[]) >>= fun _ => letGo old.toList.reverse >>= fun _ => Builtin.List.listExtendWith (.ref z.heap.objs.size) (.ref e) .none) _ _ { z with heap := g0 }
  unfold Builtin.List.listItems
  refine wpAny_bind (wpAny_bind (wpAny_seqItems new0 rfl (wpAny_pure ?_)))
  show wpAny _ B.in1.in1 (updateSeq z.heap.objs.size (fun _ => #[]) >>= fun _ => letGo (#[] : Array Value).toList.reverse >>= fun _ => Builtin.List.listExtendWith (.ref z.heap.objs.size) (.ref e) .none) _ _ _
  refine wpAny_bind (wpAny_updateSeq new0 rfl ?_)
  have new1 := Heap.get?_update_self (Obj.mapSeq (fun _ => (#[] : Array Value))) new0 rfl
  have old1 : ∀ b o, b ≠ z.heap.objs.size → g0.get? b = some o → (g0.update z.heap.objs.size (Obj.mapSeq (fun _ => (#[] : Array Value)))).get? b = some o := fun b o hb q => (Heap.get?_update_other _ _ (Ne.symm hb)).trans q
  have sz1 : (g0.update z.heap.objs.size (Obj.mapSeq (fun _ => (#[] : Array Value)))).objs.size = z.heap.objs.size + 1 := by rw [← sz0]; simp [Heap.update]
  generalize g0.update z.heap.objs.size (Obj.mapSeq (fun _ => (#[] : Array Value))) = g1 at new1 old1 sz1
  refine wpAny_bind (wpAny_letGo ?_)
  have he1 : IsEnum g1 e j 0 .none := old1 _ _ (Ne.symm hSe) (old0 _ _ he)
  have hTy : Shared.TypeIs { z with heap := g1 } (.ref e) "enumerate" := ⟨_, he1, rfl⟩
  unfold Builtin.List.listExtendWith
  refine wpAny_bind (wpAny_typeOf hTy ?_)
  simp only [show Builtin.List.listSameRef (.ref z.heap.objs.size) (.ref e) = false by simp [Builtin.List.listSameRef, hSe], show (Value.type "enumerate" == Value.type "list") = false by decide, show (Value.type "enumerate" == Value.type "tuple") = false by decide, Bool.or_false, Bool.false_eq_true, if_false]
  refine wpAny_bind (wpAny_pyIter_enum he1 (wpAny_bind (wpAny_holding ?_)))
  unfold Builtin.List.listLengthHint
  refine wpAny_bind (wpAny_specialOf hTy enum_no_len ?_)
  show wpAny _ B.in1.in1 (specialOf (Value.ref e) (Str.ofString "__length_hint__") >>= _) _ _ _
  refine wpAny_bind (wpAny_specialOf hTy enum_no_hint (wpAny_pure ?_))
  show wpAny _ B.in1.in1 (rule "list.extend.makes-room" >>= fun _ => Builtin.List.listTouch (.ref z.heap.objs.size) >>= fun _ => again (.builtin "list.extend.loop" ⟨[.ref z.heap.objs.size, .ref e, .none], []⟩)) _ _ _
  refine wpAny_bind (wpAny_rule (wpAny_bind ?_))
  show wpAny _ B.in1.in1 (updateSeq z.heap.objs.size (·.push .none) >>= fun _ => updateSeq z.heap.objs.size (·.pop)) _ _ _
  refine wpAny_bind (wpAny_updateSeq new1 rfl ?_)
  have new2 := Heap.get?_update_self (Obj.mapSeq (·.push Value.none)) new1 rfl
  refine wpAny_updateSeq (hz := by seq_fits) new2 rfl ?_
  have new3 := Heap.get?_update_self (Obj.mapSeq (·.pop)) new2 rfl
  have old3 : ∀ b o, b ≠ z.heap.objs.size → g1.get? b = some o → ((g1.update z.heap.objs.size (Obj.mapSeq (·.push Value.none))).update z.heap.objs.size (Obj.mapSeq (·.pop))).get? b = some o :=
    fun b o hb q => ((Heap.get?_update_other _ _ (Ne.symm hb)).trans (Heap.get?_update_other _ _ (Ne.symm hb))).trans q
  have sz3 : ((g1.update z.heap.objs.size (Obj.mapSeq (·.push Value.none))).update z.heap.objs.size (Obj.mapSeq (·.pop))).objs.size = z.heap.objs.size + 1 := by rw [← sz1]; simp [Heap.update]
  generalize (g1.update z.heap.objs.size (Obj.mapSeq (·.push Value.none))).update z.heap.objs.size (Obj.mapSeq (·.pop)) = g3 at new3 old3 sz3
  have all3 : ∀ b o, z.heap.get? b = some o → g3.get? b = some o := fun b o q => by
    have hb : b ≠ z.heap.objs.size := Nat.ne_of_lt (Heap.lt_size q)
    exact old3 b o hb (old1 b o hb (old0 b o q))
  refine wpAny_pure ⟨plainId_quiet F.plain_extend_loop _, ?_⟩
  refine en_fill (B := B.in1) D hn z.heap.objs.size e hne hef hSf hjf hSe .none n 0 _ #[] _ (Nat.sub_zero n) (Nat.zero_le n) (.inl ⟨_, all3 _ _ he⟩) (D.frame _ _ _ hst fun b _ o q => all3 b o q) new3 rfl fun g4 k4 ts c4 hl keep above nd pairs hS4 => ?_
  refine ⟨rfl, hQ g4 k4 ts c4 hl (fun b o b1 b2 q => keep b o (Nat.ne_of_lt (Heap.lt_size q)) b1 b2 (all3 b o q)) (fun T h => ?_) nd pairs (by rw [hS4]; simp)⟩
  have := above T h
  rw [show (Shared.heap _).objs.size = _ from sz3] at this
  exact this
end

/-! ### list(enumerate(e)) by values -/
def putP : Hp → Nat → List Addr → List V → Hp
  | H, i, a :: as, x :: xs => putP (upd H a (.tup [.int (i : Nat), x])) (i + 1) as xs
  | H, _, _, _ => H
theorem putP_off {b : Addr} : ∀ (as : List Addr) (xs : List V) (H : Hp) (i : Nat), b ∉ as → putP H i as xs b = H b
  | [], _, _, _, _ => by simp [putP]
  | _ :: _, [], _, _, _ => by simp [putP]
  | a :: as, x :: xs, H, i, h => by
    unfold putP
    rw [putP_off as xs _ _ fun z => h (List.mem_cons_of_mem _ z)]
    exact upd_ne fun z => h (z ▸ List.mem_cons_self)
theorem putP_at : ∀ (as : List Addr) (xs : List V) (H : Hp) (i j : Nat) (a : Addr) (x : V), as.Nodup → as[j]? = some a → xs[j]? = some x → putP H i as xs a = some (.tup [.int ((i + j : Nat) : Int), x])
  | [], _, _, _, j, _, _, _, h, _ => by simp at h
  | _ :: _, [], _, _, j, _, _, _, _, h => by simp at h
  | a :: as, x :: xs, H, i, j, b, y, nd, h1, h2 => by
    have nd' := List.nodup_cons.mp nd
    unfold putP
    match j, h1, h2 with
    | 0, h1, h2 =>
      cases h1
      cases h2
      rw [putP_off as xs _ _ nd'.1]
      exact upd_same
    | j + 1, h1, h2 =>
      rw [putP_at as xs _ (i + 1) j b y nd'.2 h1 h2, show i + 1 + j = i + (j + 1) by omega]
section
variable {X : Cx}
def rEnumL (K : PySem.W.Frag) : List V → Hp → VK → Prop := fun vs H Q => ∃ (a : Addr) (xs : List V), vs = [.ref a] ∧ (SqL K H a xs ∨ SqT K H a xs) ∧ ∀ (H' : Hp) (l : Addr) (ts : List Addr), Same H H' → H l = Option.none → H' l = some (.lst (ts.map V.ref)) → ts.length = xs.length →
  (∀ (i : Nat) (t : Addr) (x : V), ts[i]? = some t → xs[i]? = some x → H' t = some (.tup [.int (i : Nat), x])) → Q (.ref l) H'
theorem refs_vals : ∀ ts : List Addr, Vals (ts.map V.ref) (ts.map Value.ref)
  | [] => .nil
  | _ :: r => .cons rfl (refs_vals r)
theorem enum_laid {pins : List (Addr × Obj)} {σ : L2.St} {H : Hp} {s : Shared} {g : Heap} {k S c : Nat} {ts : List Addr} {xs : List V} {its : List Value} (I : Inv X pins σ H s) (hz : xs.length ≤ sizeLine) (rv : Vals xs its) (hS0 : s.heap.objs.size ≤ S) (hts : ∀ T ∈ ts, S < T) (nd : ts.Nodup) (hl : ts.length = its.length)
    (kp : ∀ b o, s.heap.get? b = some o → g.get? b = some o) (pairs : PairsFrom (fun i v => its.toArray[i]? = some v) g 0 ts) (hS : g.get? S = some { cls := .type "list", dict := none, data := .seq (ts.map Value.ref).toArray c, slots := #[] }) :
    ∃ H' : Hp, Same H H' ∧ H S = Option.none ∧ H' S = some (.lst (ts.map V.ref)) ∧ (∀ (i : Nat) (t : Addr) (x : V), ts[i]? = some t → xs[i]? = some x → H' t = some (.tup [.int (i : Nat), x])) ∧ Inv X pins σ H' { s with heap := g, toks := k } := by
  have lx : xs.length = its.length := rv.length
  have fr : ∀ b, S ≤ b → H b = Option.none := fun b hb => I.hok.fresh (Nat.le_trans hS0 hb)
  have nS : S ∉ ts := fun q => Nat.lt_irrefl _ (hts S q)
  have off : ∀ b, b ∉ ts → b ≠ S → putP (upd H S (.lst (ts.map V.ref))) 0 ts xs b = H b := fun b h1 h2 => by rw [putP_off ts xs _ _ h1]; exact upd_ne h2
  have sm : Same H (putP (upd H S (.lst (ts.map V.ref))) 0 ts xs) := fun b u q => by
    rw [off b (fun y => by rw [fr b (Nat.le_of_lt (hts b y))] at q; cases q) (fun y => by rw [y, fr S (Nat.le_refl _)] at q; cases q)]
    exact q
  have atS : putP (upd H S (.lst (ts.map V.ref))) 0 ts xs S = some (.lst (ts.map V.ref)) := by rw [putP_off ts xs _ _ nS]; exact upd_same
  have atT : ∀ (i : Nat) (t : Addr) (x : V), ts[i]? = some t → xs[i]? = some x → putP (upd H S (.lst (ts.map V.ref))) 0 ts xs t = some (.tup [.int (i : Nat), x]) := fun i t x h1 h2 => by
    have := putP_at ts xs (upd H S (.lst (ts.map V.ref))) 0 i t x nd h1 h2
    rw [Nat.zero_add] at this
    exact this
  refine ⟨_, sm, fr S (Nat.le_refl _), atS, atT, I.un (t' := k) ?_ ?_⟩
  · exact { keep := fun b u q _ _ _ => kp b u q, slot := fun b u q _ _ _ => ⟨u.slots, kp b u q⟩, there := fun b u q _ => ⟨u, kp b u q⟩, tups := fun b ys q => sm b _ q, frzs := fun b u ys q => sm b _ q, tbls := fun b ps q => ⟨#[], by rw [sm b _ q]; simp⟩,
            free := fun b u q n _ => by
              have lt := Heap.lt_size q
              rw [off b (fun y => Nat.lt_irrefl _ (Nat.lt_of_lt_of_le lt (Nat.le_trans hS0 (Nat.le_of_lt (hts b y))))) (fun y => by rw [y] at lt; exact Nat.lt_irrefl _ (Nat.lt_of_lt_of_le lt hS0))]
              exact n }
  · intro b u q
    by_cases hb : b ∈ ts
    · obtain ⟨i, hi, e⟩ := List.mem_iff_getElem.mp hb
      have h1 : ts[i]? = some b := by rw [List.getElem?_eq_getElem hi, e]
      obtain ⟨x, h2⟩ : ∃ x, xs[i]? = some x := ⟨_, List.getElem?_eq_getElem (by omega)⟩
      rw [atT i b x h1 h2] at q
      cases q
      obtain ⟨y, kk, y1, y2⟩ := pairs i b h1
      obtain ⟨y', y3, ry⟩ := rv.get h2
      have e3 : y = y' := by
        have y1 : its.toArray[0 + i]? = some y := y1
        rw [Nat.zero_add] at y1
        have : its[i]? = some y := by simpa using y1
        rw [y3] at this
        exact (Option.some.inj this).symm
      subst e3
      rw [Nat.zero_add] at y2
      exact ⟨by show 2 ≤ sizeLine; decide, [.int (i : Nat) kk, y], .cons ⟨_, rfl⟩ (.cons ry .nil), ⟨_, y2, rfl, _, rfl⟩⟩
    · by_cases hb2 : b = S
      · subst hb2
        rw [atS] at q
        cases q
        exact ⟨by rw [List.length_map]; omega, ts.map Value.ref, c, refs_vals ts, hS⟩
      · rw [off b hb hb2] at q
        exact (I.hok b u q).stay (fun d v _ y => kp d v y) (fun d y => sm d _ y) fun d ys y => sm d _ y
end

theorem meets_enum1 {v : Value} {o : Obj} {I0 : Heap → Prop} (Bg : Begins v o I0) : Meets (Builtin.«enumerate.__new__» ⟨[.type "enumerate", v], []⟩) (fun _ R s => I0 s.heap ∧ R (.ok (.ret (.ref (s.heap.push o).objs.size))) { s with heap := (s.heap.push o).push { cls := .type "enumerate", data := .fields #[.none, .bool false, .ref s.heap.objs.size, rawInt 0, .none, .none] } }) :=
  .of_wp fun pr wd A R z hz => by
    obtain ⟨g0, gg, dd, k0, os⟩ := z
    obtain ⟨h1, h2⟩ := hz
    have hsub := sub_enumerate
    have it1 : ∀ {A' : Around} {E' : Value → Shared → Prop} {Q' : Value → Shared → Prop}, Q' (.ref g0.objs.size) ⟨g0.push o, gg, dd, k0, os⟩ → wpAny (model pr wd) A' (pyIter v) Q' E' ⟨g0, gg, dd, k0, os⟩ := fun q => Bg.iter pr wd _ _ ⟨g0, gg, dd, k0, os⟩ _ h1 q
    wp_walk using it1
    refine wpAny_stack_any fun _ => wpAny_pure ?_
    split
    · rename_i cc _ _ _ _ _
      cases (cc == Value.type "enumerate") <;> (wp_walk using it1; exact ⟨_, rfl, h2⟩)
    · wp_walk using it1
      exact ⟨_, rfl, h2⟩
theorem call_enum1 {pr : Program} {wd : World} {B : Around} {EE : Value → Shared → Prop} {z : Shared} {v : Value} {o : Obj} {I0 : Heap → Prop} {Q : Value → Shared → Prop} (Bg : Begins v o I0) (h1 : I0 z.heap)
    (h : ∀ g, IsEnum g (z.heap.objs.size + 1) z.heap.objs.size 0 .none → g.get? z.heap.objs.size = some o → g.objs.size = z.heap.objs.size + 2 → (∀ b u, z.heap.get? b = some u → g.get? b = some u) → Q (.ref (z.heap.objs.size + 1)) { z with heap := g }) :
    wpAny (model pr wd) B (call (.type "enumerate") [v]) Q EE z := by
  refine callType_new F.called_enumerate (by decide) (F.typeCall_enumerate_1 _) (F.newCall_enumerate_1 _) (fun ob => F.args_object_init_2 ob _) F.entry_enumerate_new (meets_enum1 Bg) ⟨h1, ?_⟩
  have s1 : (z.heap.push o).objs.size = z.heap.objs.size + 1 := Heap.size_push ..
  show _ ∧ _
  rw [s1]
  have he : IsEnum ((z.heap.push o).push { cls := .type "enumerate", data := .fields #[.none, .bool false, .ref z.heap.objs.size, rawInt 0, .none, .none] }) (z.heap.objs.size + 1) z.heap.objs.size 0 .none := by
    rw [← s1]
    exact Heap.get?_push_size (z.heap.push o) rfl
  exact ⟨⟨_, he, rfl⟩, h _ he (Heap.get?_push_of_some _ (Heap.get?_push_size _ Bg.free)) (by rw [Heap.size_push, s1]) fun b u q => Heap.get?_push_of_some _ (Heap.get?_push_of_some _ q)⟩
section
variable {X : Cx}
/-- what draws the items of a list or of a tuple -/
theorem two_kinds {pins : List (Addr × Obj)} {σ : L2.St} {H : Hp} {s : Shared} {a : Addr} {xs : List V} (I : Inv X pins σ H s) (hS : SqL X.K H a xs ∨ SqT X.K H a xs) : ∃ (its : List Value) (o : Obj) (I0 : Heap → Prop), Vals xs its ∧ xs.length ≤ sizeLine ∧ Begins (.ref a) o I0 ∧ I0 s.heap ∧ (∃ oa, s.heap.get? a = some oa) ∧
    ∀ (A : Around) (j : Addr), A.handled = Option.none → a ≠ j → ∃ Sd : Nat → Heap → Prop, Draws X.prog X.w A j [j, a] its.toArray.size (fun i v => its.toArray[i]? = some v) Sd ∧ ∀ g, I0 g → g.get? j = some o → Sd 0 g := by
  rcases hS with hS | hS
  · obtain ⟨its, rv, pl, hz⟩ := I.list hS
    obtain ⟨oa, oa1, _⟩ := id pl.isList
    exact ⟨its, _, _, rv, hz, begins_list a its.toArray, pl.isList, ⟨oa, oa1⟩, fun A j hh ne => ⟨_, Draws.list hh j a ne its.toArray, fun g q1 q2 => ⟨⟨_, q2, rfl, rfl⟩, q1⟩⟩⟩
  · obtain ⟨its, rv, pl, hz⟩ := I.tuple hS
    obtain ⟨oa, oa1, _⟩ := id pl
    exact ⟨its, _, _, rv, hz, begins_tuple a its.toArray, pl, ⟨oa, oa1⟩, fun A j hh ne => ⟨_, Draws.tuple hh j a ne its.toArray, fun g q1 q2 => ⟨⟨_, q2, rfl, rfl⟩, q1⟩⟩⟩
theorem pe_listEnum {e : Expr} {ta : TA} {p p2 pos pos2 : Pos} (hc : X.calm = true) (hg : Gl X "list") (hm : X.mg "list" = Option.none) (hg2 : Gl X "enumerate") (hm2 : X.mg "enumerate" = Option.none) (ha : PA X [e] ta) (hs2 : starEach [e] X.env = [(false, eval e X.env)] := by rfl)
    (na : starEach [.Call (.Name "enumerate" p2) [e] [] pos2] X.env = (false, eval (.Call (.Name "enumerate" p2) [e] [] pos2) X.env) :: starEach [] X.env := by rfl) : PE X (.Call (.Name "list" p) [.Call (.Name "enumerate" p2) [e] [] pos2] [] pos) (fun σ H Q => ta σ H fun vs H1 => rEnumL X.K vs H1 Q) := by
  refine ⟨fun pins s σ H Q I h => ?_⟩
  refine Call_ (ld_blt I hg hm boot_list (PyProof.Rows.callWith_type1 (args_cons (Call_ (ld_blt I hg2 hm2 boot_enumerate (PyProof.Rows.callWith_type1 (thn (ha.run pos2 pins s σ H _ I h) fun us s1 ⟨vs, H1, I1, r1, q1⟩ => ?_) hs2 rfl))) na) na))
  obtain ⟨a, xs, ev, hS, q⟩ := q1
  subst ev
  obtain rfl := Vals.ref1 r1
  obtain ⟨its, o, I0, rv, hz, Bg, hI0, ⟨oa, hoa⟩, mk⟩ := two_kinds I1 hS
  refine call_enum1 Bg hI0 fun g he hj hsz kp => args_nil ?_
  have lt : a < s1.heap.objs.size := Heap.lt_size hoa
  have lsz : its.toArray.size = xs.length := by rw [List.size_toArray]; exact rv.length.symm
  obtain ⟨Sd, D, st0⟩ := mk X.A.in1.in1.in1 s1.heap.objs.size (I1.ok.hd hc) (Nat.ne_of_lt lt)
  refine call_listEn (z := { s1 with heap := g }) D (by rw [lsz]; exact hz) he (st0 g (Bg.keeps _ _ hI0 kp) hj) (Nat.succ_ne_self _) (fun y => ?_) List.mem_cons_self (fun b hb => ?_) fun g2 k ts c hl keep above nd pairs hS2 => ?_
  · rcases List.mem_cons.mp y with y | y
    · exact Nat.succ_ne_self _ y
    · have y := List.mem_singleton.mp y
      exact absurd lt (by rw [← y]; exact Nat.not_lt.mpr (Nat.le_succ _))
  · show b < g.objs.size
    rw [hsz]
    rcases List.mem_cons.mp hb with y | y
    · rw [y]; exact Nat.lt_add_of_pos_right (by decide)
    · rw [List.mem_singleton.mp y]; exact Nat.lt_of_lt_of_le lt (Nat.le_add_right _ _)
  have k2 : ∀ b u, s1.heap.get? b = some u → g2.get? b = some u := fun b u y => by
    have lb : b < s1.heap.objs.size := Heap.lt_size y
    exact keep b u (Nat.ne_of_lt (Nat.lt_succ_of_lt lb)) (Nat.ne_of_lt lb) (kp b u y)
  have sz2 : (Shared.heap { s1 with heap := g }).objs.size = s1.heap.objs.size + 2 := hsz
  obtain ⟨H', e1, e2, e3, e4, J⟩ := enum_laid (k := k) (S := s1.heap.objs.size + 2) (c := c) I1 hz rv (Nat.le_add_right _ _) (fun T y => by rw [← sz2]; exact above T y) nd (by rw [hl, List.size_toArray]) k2 pairs (by rw [← sz2]; exact hS2)
  refine ⟨.ref (s1.heap.objs.size + 2), H', J, by rw [sz2]; rfl, q H' _ ts e1 e2 e3 (by rw [hl, lsz]) e4⟩
/-- the tuple at a, each item in a new pair -/
def IteT (K : PySem.W.Frag) (a : Addr) : It :=
  ⟨fun i H => ∃ (xs : List V) (x : V), SqT K H a xs ∧ xs[i]? = some x, fun i H v H' => ∃ T x, v = .ref T ∧ H T = Option.none ∧ H' = upd H T (.tup [.int (i : Nat), x]) ∧ ∀ xs, SqT K H a xs → xs[i]? = some x, fun i H => ∃ xs : List V, SqT K H a xs ∧ xs.length ≤ i⟩
theorem turn_enumT {P : Program} {w : World} {K : PySem.W.Frag} {elts : List Expr} {kk : Nat} {tpos : Pos} (a e it : Addr) :
    Turn P w K (.Tuple elts kk tpos) (IteT K a) [e, it] e (fun i h => (∃ old, IsEnum h e it ((i : Nat) : Int) old) ∧ h.IsTupleIter it a i ∧ e ≠ it) where
  mem := by simp
  obj := fun j g st b hb => by
    obtain ⟨⟨old, q⟩, ⟨o, o1, o2, o3⟩, _⟩ := st
    rcases List.mem_cons.mp hb with y | y
    · rw [y]; exact ⟨_, q, fun v z => nomatch z⟩
    · rw [List.mem_singleton.mp y]; exact ⟨o, o1, fun v z => by rw [o3] at z; cases z⟩
  keep := fun j g g' st k => by
    obtain ⟨⟨old, q⟩, hi, ne⟩ := st
    exact ⟨⟨old, k e List.mem_cons_self _ q⟩, hi.at fun o y => k it (by simp) o y, ne⟩
  item := by
    intro X hP hw hK hc i pins s σ H E I hf st hg
    subst hP hw hK
    obtain ⟨⟨old, he⟩, hit, hne⟩ := st
    obtain ⟨xs, x, hq, hx⟩ := hg
    obtain ⟨its, rv, pl, hz⟩ := I.tuple hq
    obtain ⟨u, hu, ru⟩ := rv.get hx
    obtain ⟨oa, oa1, oa2, _⟩ := id pl
    obtain ⟨oi, oi1, oi2, _⟩ := id hit
    have nai : a ≠ it := fun y => by
      rw [y, oi1] at oa1
      cases oa1
      rw [oi2] at oa2
      exact absurd oa2 (by decide)
    have nae : e ≠ a := fun y => by
      rw [y] at he
      have he : s.heap.get? a = _ := he
      rw [oa1] at he
      cases he
      exact absurd (show Value.type "enumerate" = Value.type "tuple" from oa2) (by decide)
    have hel : e < s.heap.objs.size := Heap.lt_size he
    have hil : it < s.heap.objs.size := Heap.lt_size oi1
    have ix : i < its.toArray.size := by rw [List.size_toArray]; exact (List.getElem?_eq_some_iff.mp hu).1
    refine wpAny_pyNext_enum_itemD (Draws.tuple (A := X.A.in1) (I.ok.hd hc) it a nai its.toArray) he ⟨hit, pl⟩ ix hne (fun y => ?_) fun v g k hv ho st2 hT hsz kp => ?_
    · rcases List.mem_cons.mp y with y | y
      · exact hne y
      · exact nae (List.mem_singleton.mp y)
    have ev : v = u := by
      have : its[i]? = some v := by simpa using hv
      rw [hu] at this
      exact (Option.some.inj this).symm
    subst ev
    refine ⟨_, rfl, wpAny_letOwnedTupleGo_enum (s := { s with heap := g, toks := k + 1 }) ho fun g2 he2 sb => ?_⟩
    have hT2 : g2.get? s.heap.objs.size = some { cls := .type "tuple", data := .seq #[.int i k, v] } := (sb.2 _ (Nat.ne_of_gt hel)).trans hT
    have new : ObjOk X.prog X.w (upd H s.heap.objs.size (.tup [.int (i : Nat), x])) g2 s.heap.objs.size (.tup [.int (i : Nat), x]) := ⟨by show 2 ≤ sizeLine; decide, [.int i k, v], .cons ⟨_, rfl⟩ (.cons ru .nil), ⟨_, hT2, rfl, _, rfl⟩⟩
    have keep2 : ∀ b o, b ∉ [e, it] → s.heap.get? b = some o → g2.get? b = some o := fun b o hb q => by
      have b1 : b ≠ e := fun z => hb (by rw [z]; exact List.mem_cons_self)
      have b2 : b ≠ it := fun z => hb (by rw [z]; simp)
      exact (sb.2 b b1).trans (kp b o b1 b2 q)
    have I1 : Inv X pins σ (upd H s.heap.objs.size (.tup [.int (i : Nat), x])) { s with heap := g2, toks := k + 1 } := I.turnedNew (ch := [e, it]) keep2 hf (Nat.le_refl _) new
    have low : ∀ b ∈ [e, it], b < s.heap.objs.size := fun b hb => by
      rcases List.mem_cons.mp hb with z | z
      · rw [z]; exact hel
      · rw [List.mem_singleton.mp z]; exact hil
    refine ⟨.ref s.heap.objs.size, _, I1, rfl, ⟨_, x, rfl, I.hok.fresh (Nat.le_refl _), rfl, fun ys hy => by rw [I.tuple_inj hy hq]; exact hx⟩, ⟨⟨v, ?_⟩, st2.1.at fun o q => (sb.2 it (Ne.symm hne)).trans q, hne⟩, fun b hb => ?_⟩
    · rw [show ((i + 1 : Nat) : Int) = (i : Int) + 1 by omega]
      exact he2
    · rw [upd_ne (Nat.ne_of_lt (low b hb))]
      exact (hf b hb).1
  done := by
    intro X hP hw hK hc i pins s σ H E I hf st hg
    subst hP hw hK
    obtain ⟨⟨old, he⟩, hit, hne⟩ := st
    obtain ⟨xs, hq, hx⟩ := hg
    obtain ⟨its, rv, pl, hz⟩ := I.tuple hq
    obtain ⟨f0, f1, f2, f3, f4, f5⟩ := hf it (by simp)
    have none_at : its.toArray[i]? = Option.none := by
      have : its.length ≤ i := by rw [← rv.length]; exact hx
      simpa using this
    have hTy : s.TypeIs (.ref e) "enumerate" := ⟨_, he, rfl⟩
    unfold pyNext
    refine wpAny_bind (wpAny_attempt (wpAny_callSpecial?_slot (name := Str.ofString "__next__") hTy F.slot_enumerate_next ?_))
    refine wpAny_call_entry F.slot_enumerate_next hTy F.entry_enumerate_next ?_ (F.args_enumerate_next_1 _)
    show wpAny _ _ (field (.ref e) 2 >>= _) _ _ _
    refine wpAny_bind (wpAny_field he rfl (x := .ref it) rfl (wpAny_bind (wpAny_nextOf_tuple_end (A := X.A.in1) (I.ok.hd hc) hit pl none_at fun g x eg hx2 => ?_)))
    obtain ⟨ox, ox1, ox2⟩ := hx2
    exact wpAny_bind (wpAny_isInstance (T := "StopIteration") (b := true) ⟨ox, ox1, ox2⟩ isSubtype_stop (wpAny_pure ⟨rfl, I.turned (t' := s.toks) (fun b o hb q => eg b o hb q) f0 f1 f3 f4 f5⟩))
  self := fun A i s Q E st h => by
    obtain ⟨⟨_, he⟩, _⟩ := st
    exact wpAny_pyIter_enum he h
/-- enumerate of a list or of a tuple, walked -/
def iEnum2 (K : PySem.W.Frag) (ta : TA) : TI := fun σ H R => ta σ H fun vs H1 => ∃ a xs, vs = [.ref a] ∧ ((SqL K H1 a xs ∧ R (Ite K a) H1) ∨ (SqT K H1 a xs ∧ R (IteT K a) H1))
theorem pi_enum2 {e : Expr} {ta : TA} {p pos tpos : Pos} {elts : List Expr} {kk : Nat} (hg : Gl X "enumerate") (hm : X.mg "enumerate" = Option.none) (ha : PA X [e] ta) (hs : starEach [e] X.env = [(false, eval e X.env)] := by rfl) : PI X (.Tuple elts kk tpos) (.Call (.Name "enumerate" p) [e] [] pos) (iEnum2 X.K ta) := by
  refine ⟨fun pins s σ H R I h => Call_ (ld_blt I hg hm boot_enumerate (PyProof.Rows.callWith_type1 (thn (ha.run pos pins s σ H _ I h) fun us s1 ⟨vs, H1, I1, r1, q1⟩ => ?_) hs rfl))⟩
  obtain ⟨a, xs, ev, q⟩ := q1
  subst ev
  obtain rfl := Vals.ref1 r1
  have fresh2 : ∀ b ∈ [s1.heap.objs.size + 1, s1.heap.objs.size], FpOk X pins H1 b := fun b hb => by
    have le : s1.heap.objs.size ≤ b := by
      rcases List.mem_cons.mp hb with z | z
      · rw [z]; exact Nat.le_succ _
      · rw [List.mem_singleton.mp z]; exact Nat.le_refl _
    exact I1.fpOk le (I1.hok.fresh le)
  rcases q with ⟨hq, q⟩ | ⟨hq, q⟩
  · obtain ⟨its, rv, pl, hz⟩ := I1.list hq
    refine call_enum1 (begins_list a its.toArray) pl.isList fun g he hj hsz kp => wpAny_pyIter_enum he ?_
    exact ⟨s1.heap.objs.size + 1, [s1.heap.objs.size + 1, s1.heap.objs.size], _, _, H1, rfl, I1.kept (t' := s1.toks) kp, turn_enum a (s1.heap.objs.size + 1) s1.heap.objs.size, ⟨⟨.none, he⟩, ⟨_, hj, rfl, rfl⟩, Nat.succ_ne_self _⟩, fresh2, q⟩
  · obtain ⟨its, rv, pl, hz⟩ := I1.tuple hq
    refine call_enum1 (begins_tuple a its.toArray) pl fun g he hj hsz kp => wpAny_pyIter_enum he ?_
    exact ⟨s1.heap.objs.size + 1, [s1.heap.objs.size + 1, s1.heap.objs.size], _, _, H1, rfl, I1.kept (t' := s1.toks) kp, turn_enumT a (s1.heap.objs.size + 1) s1.heap.objs.size, ⟨⟨.none, he⟩, ⟨_, hj, rfl, rfl⟩, Nat.succ_ne_self _⟩, fresh2, q⟩
/-- min of a list of pairs of integers -/
def pr2 (q : Int × Int) : PyData := .tuple [.int q.1, .int q.2]
end

/-! ### min of a list of pairs of integers -/
section
variable {X : Cx}
/-- the pairs at some addresses -/
def PrsAt (H : Hp) (ts : List Addr) (qs : List (Int × Int)) : Prop := ts.length = qs.length ∧ ∀ (i : Nat) (t : Addr) (q : Int × Int), ts[i]? = some t → qs[i]? = some q → H t = some (.tup [.int q.1, .int q.2])
theorem PrsAt.same {H H' : Hp} {ts : List Addr} {qs : List (Int × Int)} (s : Same H H') (h : PrsAt H ts qs) : PrsAt H' ts qs := ⟨h.1, fun i t q a b => s _ _ (h.2 i t q a b)⟩
theorem PrsAt.dp {K : PySem.W.Frag} {H : Hp} : ∀ {ts : List Addr} {qs : List (Int × Int)}, PrsAt H ts qs → DpAll K H (ts.map V.ref) (qs.map pr2)
  | [], [], _ => .nil
  | [], _ :: _, h => by cases h.1
  | _ :: _, [], h => by cases h.1
  | t :: ts, q :: qs, h => .cons (.tup (SqT.of (h.2 0 t q rfl rfl)) (.cons (.int _) (.cons (.int _) .nil))) (PrsAt.dp (ts := ts) (qs := qs) ⟨Nat.succ.inj h.1, fun i t' q' a b => h.2 (i + 1) t' q' a b⟩)
def rMinP (K : PySem.W.Frag) : List V → Hp → VK → Prop := fun vs H Q => ∃ (l : Addr) (ts : List Addr) (qs : List (Int × Int)), vs = [V.ref l] ∧ SqL K H l (ts.map V.ref) ∧ PrsAt H ts qs ∧ qs ≠ [] ∧
  ∀ (t : Addr) (q : Int × Int), q ∈ qs → (∀ q' ∈ qs, NM.lexLe q.1 q.2 q'.1 q'.2) → H t = some (.tup [.int q.1, .int q.2]) → Q (.ref t) H
theorem lt_pair (p q : Int × Int) : PySem.W.DatumOrd.lt p q = if p.1 = q.1 then decide (p.2 < q.2) else decide (p.1 < q.1) := rfl
theorem minOf_least : ∀ (xs : List (Int × Int)) (x : Int × Int), PySem.W.minOf x xs ∈ x :: xs ∧ ∀ q ∈ x :: xs, NM.lexLe (PySem.W.minOf x xs).1 (PySem.W.minOf x xs).2 q.1 q.2
  | [], x => ⟨List.mem_cons_self, fun q hq => by rw [List.mem_singleton.mp hq]; exact .inr ⟨rfl, Int.le_refl _⟩⟩
  | y :: ys, x => by
    have e : PySem.W.minOf x (y :: ys) = PySem.W.minOf (if PySem.W.DatumOrd.lt y x = true then y else x) ys := rfl
    rw [e]
    have ih := minOf_least ys (if PySem.W.DatumOrd.lt y x = true then y else x)
    generalize PySem.W.minOf (if PySem.W.DatumOrd.lt y x = true then y else x) ys = m at ih
    by_cases h : PySem.W.DatumOrd.lt y x = true
    · rw [if_pos h] at ih
      refine ⟨List.mem_cons_of_mem _ ih.1, fun q hq => ?_⟩
      rcases List.mem_cons.mp hq with z | z
      · have a := ih.2 y List.mem_cons_self
        rw [lt_pair] at h
        rw [z]
        unfold NM.lexLe at a ⊢
        split at h
        · have := of_decide_eq_true h; omega
        · have := of_decide_eq_true h; omega
      · exact ih.2 q z
    · rw [if_neg h] at ih
      refine ⟨?_, fun q hq => ?_⟩
      · rcases List.mem_cons.mp ih.1 with z | z
        · rw [z]; exact List.mem_cons_self
        · exact List.mem_cons_of_mem _ (List.mem_cons_of_mem _ z)
      · rcases List.mem_cons.mp hq with z | z
        · exact ih.2 q (by rw [z]; exact List.mem_cons_self)
        · rcases List.mem_cons.mp z with z | z
          · have a := ih.2 x List.mem_cons_self
            rw [lt_pair] at h
            rw [z]
            unfold NM.lexLe at a ⊢
            split at h
            · have : ¬ y.2 < x.2 := fun w => h (decide_eq_true w); omega
            · have : ¬ y.1 < x.1 := fun w => h (decide_eq_true w); omega
          · exact ih.2 q (List.mem_cons_of_mem _ z)
theorem vals_refs_eq : ∀ {ts : List Addr} {its : List Value}, Vals (ts.map V.ref) its → its = ts.map Value.ref
  | [], _, .nil => rfl
  | t :: ts, _, .cons r rr => by
    have e : _ = Value.ref t := r
    rw [List.map_cons, ← vals_refs_eq rr, ← e]
theorem cr_minP (hc : X.calm = true) (hu : X.A.units + 64 < cLine) : CallR X (.builtin "min") (rMinP X.K) := by
  intro pins s σ H vs us Q I r h
  obtain ⟨l, ts, qs, rfl, hS, hP, hne, q⟩ := h
  rw [Vals.ref1 r]
  obtain ⟨x, xs, rfl⟩ : ∃ x xs, qs = x :: xs := by
    cases qs with
    | nil => exact absurd rfl hne
    | cons x xs => exact ⟨x, xs, rfl⟩
  obtain ⟨its, rv, pl, hz⟩ := I.list hS
  obtain ⟨as, R⟩ := Dp.reads I _ _ _ (Dp.lst hS hP.dp) (show RelV (V.ref l) (Value.ref l) from rfl)
  obtain ⟨ol, ol1, _, nl, ol2⟩ := id pl.isList
  cases R with
  | list e1 e2 e3 e4 =>
    rw [ol1] at e1
    cases e1
    rw [ol2] at e3
    cases e3
    refine PySem.W.min_list_datum (x := x) (xs := xs) (I.ok.hd hc) pl.isList ⟨_, show ReadsAll s.heap its.toArray.toList ((x :: xs).map pr2) _ from e4⟩ (by show X.A.units + 1 + 1 < cLine; omega) fun i v h' tk hv hH hk => ?_
    obtain ⟨m1, m2⟩ := minOf_least xs x
    generalize PySem.W.minOf x xs = m at m1 m2 hH
    have hv : its[i]? = some v := by simpa using hv
    rw [vals_refs_eq rv, List.getElem?_map] at hv
    obtain ⟨t, ht, rfl⟩ := Option.map_eq_some_iff.mp hv
    have li : i < (x :: xs).length := by rw [← hP.1]; exact (List.getElem?_eq_some_iff.mp ht).1
    obtain ⟨qi, hqi⟩ : ∃ qi, (x :: xs)[i]? = some qi := ⟨_, List.getElem?_eq_getElem li⟩
    have hT := hP.2 i t qi ht hqi
    obtain ⟨bs, R1⟩ := Dp.reads I _ _ _ (Dp.tup (SqT.of hT) (.cons (.int qi.1) (.cons (.int qi.2) .nil))) (show RelV (V.ref t) (Value.ref t) from rfl)
    obtain ⟨cs, R2⟩ := hH
    have e := (Reads.unique (PySem.W.reads_keeps hk R1) _ _ R2).1
    have e : pr2 qi = pr2 m := e
    have em : qi = m := by
      unfold pr2 at e
      cases qi
      cases m
      simp at e
      rw [e.1, e.2]
    subst em
    exact ⟨.ref t, H, I.kept (t' := tk) hk, rfl, q t qi m1 m2 hT⟩
end

/-! ### classes: made by a def with a star, static methods -/
/-- def f(p1, p2, *v) of the text -/
theorem star2_ok {x qual p1 p2 pv : Str} {k : Nat} {st : Stmt} {f : Addr} {fd : FuncData} {N : List Str} {sp : V → V → List V → Hp → VK → XK → Prop}
    (F : Fun K x qual st f fd) (S : FnScope N [p1, p2, pv] (defScope st))
    (hb : ∀ (kV doc pm : Value) (an : Option Addr) (cdv ct : Value) (a b : Value) (rest : List Value), bindArgs (PySem.W.fnOf x qual (defArgs st) (defBody st) (defScope st) .none kV doc pm an cdv ct) ⟨a :: b :: rest, []⟩ = (newTuple rest >>= fun t => pure [(p1, a), (p2, b), (pv, t)]))
    (go : ∀ (cdv : Value) (A : Around) (outer : List Env) (s : Shared) (H : Hp) (a b : V) (vs : List V) (p : Addr) (H0 : Hp) (Q : VK) (E : XK), Room k (A.deeper (envOfC qual (defScope st) s.heap.objs.size f cdv)) → sp a b vs H0 Q E → vs.length ≤ sizeLine → H0 p = Option.none → H = upd H0 p (.tup vs) →
      ∃ t, PSs (cxOf CX0 P w K mg base N qual (defScope st) f cdv A outer s H E).nox (defBody st) t ∧ t { nx := fun _ H1 => Q .non H1, rt := Q } (start N [a, b, V.ref p]) H) :
    FnR P w K mg base CX0 (k + 1) f (fun vs H Q E => ∃ a b rest, vs = a :: b :: rest ∧ rest.length ≤ sizeLine ∧ sp a b rest H Q E) := by
  obtain ⟨oc, od, kV, doc, pm, an, cdv, ct, osl, e, lk, hcd⟩ := F.ex
  subst e
  refine FnR.imp (fn_star (ps := [p1, p2]) (pv := pv) (CX := CX0) (sp := fun ws H Q E => ∃ (a b : V) (vs : List V) (p : Addr) (H0 : Hp), ws = [a, b, V.ref p] ∧ sp a b vs H0 Q E ∧ vs.length ≤ sizeLine ∧ H0 p = Option.none ∧ H = upd H0 p (.tup vs)) lk hcd S cxUp_none (fun us rest hl => ?_) fun A outer s H vs Q E hr h => ?_) fun vs H Q E h => ?_
  · match us, hl with
    | [a, b], _ =>
      show bindArgs _ { pos := a :: b :: rest, kw := [] } = _
      rw [hb]
      rfl
  · obtain ⟨a, b, ws, p, H0, rfl, hs, hl, hp, rfl⟩ := h
    obtain ⟨t, ht, hq⟩ := go cdv A outer s _ a b ws p H0 Q E hr hs hl hp rfl
    exact ⟨t, ht.nox, hq⟩
  · obtain ⟨a, b, rest, rfl, hl, hs⟩ := h
    exact ⟨[a, b], rest, rfl, rfl, hl, fun p hp => ⟨a, b, rest, p, H, rfl, hs, hl, hp, rfl⟩⟩
/-- C(e, ..), the init told of its arguments as they are passed -/
def tMkR (C : Addr) (sp : Sp) (E : XK) (t : TA) : TE := fun σ H Q => t σ H fun vs H1 => ∀ x dx, H1 x = Option.none → H1 dx = Option.none → dx ≠ x → sp (.ref x :: vs) (upd (upd H1 dx (.own x)) x (.ins C dx [])) (fun v H2 => v = .non ∧ Q (.ref x) H2) E
section
variable {X : Cx} {CX : CXT} {k : Nat} {f C p g : Addr} {sp : Sp} {E : XK} {x m : Str} {e o : Expr} {es : List Expr} {kws : List Keyword} {ta : TE} {t tk : TA} {pos apos q : Pos} {mc : Value}
theorem run_mkR {pins : List (Addr × Obj)} {σ : L2.St} {H : Hp} {s : Shared} {Q : VK} {us : List Value} {vs : List V} (M : Mk X.K C f) (F : FnR X.prog X.w X.K X.mg X.base CX k f sp) (hr : Room (k + 1) X.A) (hx : Passes CX X E) (I : Inv X pins σ H s) (r : Vals vs us)
    (h : ∀ x dx, H x = Option.none → H dx = Option.none → dx ≠ x → sp (.ref x :: vs) (upd (upd H dx (.own x)) x (.ins C dx [])) (fun v H2 => v = .non ∧ Q (.ref x) H2) E) : wpAny (model X.prog X.w) X.A (call (.ref C) us) (EP X pins σ Q) X.xe s := by
  have hq := h (s.heap.objs.size + 1) s.heap.objs.size (I.hok.fresh (Nat.le_succ _)) (I.hok.fresh (Nat.le_refl _)) (Nat.ne_of_lt (Nat.lt_succ_self _))
  have I2 := Inv.made (C := C) I
  have r1 : Vals (V.ref (s.heap.objs.size + 1) :: vs) (Value.ref (s.heap.objs.size + 1) :: us) := .cons rfl r
  refine wpAny_call (make_map (f := f) I.kIn M.makes M.init (beq_iff_eq.mp M.fn) (codeAny_mono (F _ X.stack _ _ (Value.ref (s.heap.objs.size + 1) :: us) _ _ E (hr.make C us []) (I2.env0.make C us []) r1 hq) fun r s2 hz => ?_))
  match r, hz with
  | .error er, hz => exact hx pins σ _ _ er s2 I2 hz
  | .ok (.ret u), hz =>
    obtain ⟨v, H3, I3, rv, ev, q3⟩ := I2.after hz
    subst ev
    exact ⟨rv, ⟨V.ref (s.heap.objs.size + 1), H3, I3, rfl, q3⟩⟩
theorem pe_mkR (M : Mk X.K C f) (F : FnR X.prog X.w X.K X.mg X.base CX k f sp) (hr : Room (k + 1) X.A) (hx : Passes CX X E) (hg : Gl X x) (hm : X.mg x = some (.ref C)) (ha : PA X (e :: es) t)
    (hdb : (x == ("__debug__" : Str)) = false := by decide) (he : starEach (e :: es) X.env = (false, eval e X.env) :: starEach es X.env := by rfl) (hpl : (backTo pos (starEach es X.env)).any (·.1) = false := by rfl) : PE X (.Call (.Name x q) (e :: es) [] pos) (tMkR C sp E t) := by
  refine ⟨fun pins s σ H Q I h => wpAny_Call_Name_kw (ld_glob I hg hm ?_ hdb)⟩
  refine PySem.W.callWith_K (h₀ := X.base) I.ok.mod.kin M.kp (thn (ha.run pos pins s σ H _ I h) fun us s1 ⟨vs, H1, I1, r, q⟩ => ⟨I1.kIn, ?_⟩) he hpl
  exact run_mkR M F hr hx I1 r q
/-- C.m is a static method: its record at p, its def at g -/
structure CStat (K : PySem.W.Frag) (C : Addr) (mc : Value) (m : Str) (p g : Addr) : Prop where
  at_ : PySem.W.findCls K (.ref C) mc m = some (.get (.builtin "staticmethod.__get__") (.ref p) .none (.ref C))
  rc : ∃ rest, PySem.W.recIn K p "staticmethod" = some (.ref g :: rest)
  kp : PySem.W.keepIn K (.ref g) = true
theorem getmethst_ok {pins : List (Addr × Obj)} {σ : L2.St} {H : Hp} {s : Shared} {A : Around} {E : Value → Shared → Prop} {pl : Sem Bool} {Q : Value × List Value → Shared → Prop} (I : Inv X pins σ H s) (r : ClX.CRead X.K C mc) (k : CStat X.K C mc m p g)
    (h : ∀ s', Inv X pins σ H s' → Q (.ref g, []) s') : wpAny (model X.prog X.w) A (getMethod (.ref C) m pl) Q E s := by
  obtain ⟨rest, hp⟩ := k.rc
  refine PySem.W.method_cls I.kIn r.ga (PySem.W.cls_bind I.kIn r.rd k.at_ ?_)
  exact wpAny_call (PySem.W.sm_get (s := { s with toks := s.toks + 1 }) I.kIn hp (PySem.W.handed_on rfl (h _ (I.tok _))))
/-- C.m(e, ..) -/
def tStat (C : Addr) (sp : Sp) (E : XK) (ta : TE) (t : TA) : TE := fun σ H Q => ta σ H fun x H1 => x = .ref C ∧ t σ H1 fun vs H2 => sp vs H2 Q E
theorem pe_stat {pl : Sem Bool} (he : PE X o ta) (r : ClX.CRead X.K C mc) (c : CStat X.K C mc m p g) (F : FnR X.prog X.w X.K X.mg X.base CX k g sp) (hr : Room k X.A) (hx : Passes CX X E) (ha : PA X (e :: es) t)
    (hst : starEach (e :: es) X.env = (false, eval e X.env) :: starEach es X.env := by rfl) (hpl : (backTo pos (starEach es X.env)).any (·.1) = false := by rfl)
    (ht : eval (.Call (.Attribute o m apos) (e :: es) [] pos) X.env = (do
      let ov ← eval o X.env
      standAt apos.atName
      let (f, first) ← holding [ov] (getMethod ov m pl)
      callWith pos f first (backTo pos (starEach (e :: es) X.env)) (backToKw pos (keywordEach [] X.env))) := by rfl) :
    PE X (.Call (.Attribute o m apos) (e :: es) [] pos) (tStat C sp E ta t) := by
  refine ⟨fun pins s σ H Q I h => PySem.W.methodCall_KW (pl := pl) (thn (he.run pins s σ H _ I h) fun u s1 ⟨x, H1, I1, rx, ex, q⟩ => ?_) ht⟩
  subst ex
  obtain rfl : u = Value.ref C := rx
  refine getmethst_ok I1 r c fun s2 I2 => ?_
  refine PySem.W.callWith_K (h₀ := X.base) I.ok.mod.kin c.kp (thn (ha.run pos pins s2 σ H1 _ I2 q) fun us s3 ⟨vs, H2, I3, rv, q2⟩ => ⟨I3.kIn, ?_⟩) hst hpl
  exact wpAny_call (run_fnR F hr hx I3 rv q2)
theorem pe_stat0 {pl : Sem Bool} (he : PE X o ta) (r : ClX.CRead X.K C mc) (c : CStat X.K C mc m p g) (F : FnR X.prog X.w X.K X.mg X.base CX k g sp) (hr : Room k X.A) (hx : Passes CX X E)
    (ht : eval (.Call (.Attribute o m apos) [] [] pos) X.env = (do
      let ov ← eval o X.env
      standAt apos.atName
      let (f, first) ← holding [ov] (getMethod ov m pl)
      callWith pos f first (backTo pos (starEach [] X.env)) (backToKw pos (keywordEach [] X.env))) := by rfl) :
    PE X (.Call (.Attribute o m apos) [] [] pos) (tStat C sp E ta tNil) := by
  refine ⟨fun pins s σ H Q I h => PySem.W.methodCall_KW (pl := pl) (thn (he.run pins s σ H _ I h) fun u s1 ⟨x, H1, I1, rx, ex, q⟩ => ?_) ht⟩
  subst ex
  obtain rfl : u = Value.ref C := rx
  refine getmethst_ok I1 r c fun s2 I2 => ?_
  exact PySem.W.callWith_K0 I2.kIn c.kp (wpAny_call (run_fnR (us := []) F hr hx I2 .nil q))
/-- C.m(k = v, ..) -/
theorem pe_statK {pl : Sem Bool} {fd : FuncData} {ps ks : List Str} {gu : List Value → List Value → List Value} {gV : List V → List V → List V} (he : PE X o ta) (r : ClX.CRead X.K C mc) (c : CStat X.K C mc m p g) (F : FnOk X.prog X.w X.K X.mg X.base CX k g fd ps sp) (hr : Room k X.A)
    (hb : KBinds X.K fd ps ks gu gV) (hx : Passes CX X E) (hkw : PK X kws tk) (hall : (backToKw pos (keywordEach kws X.env)).all (·.1.isSome) = true := by rfl) (hks : (backToKw pos (keywordEach kws X.env)).filterMap (·.1) = ks := by rfl)
    (hpl : ((backTo pos (starEach [] X.env)).any (·.1) || (backToKw pos (keywordEach kws X.env)).any (·.1.isNone)) = false := by rfl)
    (ht : eval (.Call (.Attribute o m apos) [] kws pos) X.env = (do
      let ov ← eval o X.env
      standAt apos.atName
      let (f, first) ← holding [ov] (getMethod ov m pl)
      callWith pos f first (backTo pos (starEach [] X.env)) (backToKw pos (keywordEach kws X.env))) := by rfl) :
    PE X (.Call (.Attribute o m apos) [] kws pos) (tStat C (fun zs => sp (gV [] zs)) E ta tk) := by
  refine ⟨fun pins s σ H Q I h => PySem.W.methodCall_KW (pl := pl) (thn (he.run pins s σ H _ I h) fun u s1 ⟨x, H1, I1, rx, ex, q⟩ => ?_) ht⟩
  subst ex
  obtain rfl : u = Value.ref C := rx
  refine getmethst_ok I1 r c fun s2 I2 => ?_
  refine PySem.W.callWith_KW0 (h₀ := X.base) I.ok.mod.kin c.kp hall (thn (hkw.run pos pins s2 σ H1 _ I2 q) fun ws s3 ⟨zs, H2, I3, rz, q2⟩ => ⟨I3.kIn, ?_⟩) hpl
  rw [hks]
  exact run_fnk (us := []) F hr hb hx I3 .nil rz q2
end

/-! ### what an own class says of in, not in, ==, len, truth -/
section
variable {X : Cx} {CX : CXT} {k : Nat} {C f : Addr} {fd : FuncData} {ps : List Str} {sp : Sp} {E : XK}
/-- an instance as the walk knows it -/
theorem ins_at {pins : List (Addr × Obj)} {σ : L2.St} {H : Hp} {s : Shared} {a dx : Addr} {fs : List (Str × V)} (I : Inv X pins σ H s) (e : H a = some (.ins C dx fs)) : ∃ (o : Obj) (od : Option Obj), PySem.W.InstAt s.heap a o C od := by
  obtain ⟨mA, O, _, _, _, _⟩ := ins_get I.hok e
  obtain ⟨od, J, _⟩ := O.look
  exact ⟨_, _, J⟩
/-- x in a: the own __contains__ answers a truth -/
def rInO (C : Addr) (sp : Sp) (E : XK) : R2 := fun x y H Q => ∃ (a dx : Addr) (fs : List (Str × V)), y = .ref a ∧ H a = some (.ins C dx fs) ∧ sp [.ref a, x] H (fun v H' => ∃ b, v = .bl b ∧ Q (.bl b) H') E
def rNotInO (C : Addr) (sp : Sp) (E : XK) : R2 := fun x y H Q => ∃ (a dx : Addr) (fs : List (Str × V)), y = .ref a ∧ H a = some (.ins C dx fs) ∧ sp [.ref a, x] H (fun v H' => ∃ b, v = .bl b ∧ Q (.bl (!b)) H') E
theorem op_inO (F : FnOk X.prog X.w X.K X.mg X.base CX k f fd ps sp) (hr : Room k X.A) (hb : Binds X.K fd ps []) (hx : Passes CX X E) (hs : PySem.W.findIn X.K (.ref C) "__contains__" = some (some (.ref f))) (hf : PySem.W.isFn X.K (.ref f) = true) : OpR X (compareOp .In) (rInO C sp E) := by
  intro pins s σ H x y v u Q I rx ry h
  obtain ⟨a, dx, fs, rfl, ha, q⟩ := h
  obtain rfl : u = Value.ref a := ry
  obtain ⟨o, od, J⟩ := ins_at I ha
  obtain ⟨m, hF⟩ := I.fr
  refine PySem.W.in_K hF I.ok.mod.kin J hs hf (thn (run_fn (us := [.ref a, v]) (vs := [.ref a, x]) F hr hb .nil hx I (.cons rfl (.cons rx .nil)) q) fun r s1 z => ?_)
  obtain ⟨w, H1, I1, rw1, b, rfl, q1⟩ := z
  cases rw1
  exact wpAny_truthy_bool ⟨.bl b, H1, I1, rfl, q1⟩
theorem op_notInO (F : FnOk X.prog X.w X.K X.mg X.base CX k f fd ps sp) (hr : Room k X.A) (hb : Binds X.K fd ps []) (hx : Passes CX X E) (hs : PySem.W.findIn X.K (.ref C) "__contains__" = some (some (.ref f))) (hf : PySem.W.isFn X.K (.ref f) = true) : OpR X (compareOp .NotIn) (rNotInO C sp E) := by
  intro pins s σ H x y v u Q I rx ry h
  obtain ⟨a, dx, fs, rfl, ha, q⟩ := h
  obtain rfl : u = Value.ref a := ry
  obtain ⟨o, od, J⟩ := ins_at I ha
  obtain ⟨m, hF⟩ := I.fr
  refine PySem.W.notIn_K hF I.ok.mod.kin J hs hf (thn (run_fn (us := [.ref a, v]) (vs := [.ref a, x]) F hr hb .nil hx I (.cons rfl (.cons rx .nil)) q) fun r s1 z => ?_)
  obtain ⟨w, H1, I1, rw1, b, rfl, q1⟩ := z
  cases rw1
  exact wpAny_truthy_bool ⟨.bl (!b), H1, I1, rfl, q1⟩
/-- a == b, both instances of the class -/
def rEqO (C : Addr) (sp : Sp) (E : XK) : R2 := fun x y H Q => ∃ (a b dx dy : Addr) (fs gs : List (Str × V)), x = .ref a ∧ y = .ref b ∧ H a = some (.ins C dx fs) ∧ H b = some (.ins C dy gs) ∧ sp [.ref a, .ref b] H (fun v H' => ∃ b, v = .bl b ∧ Q (.bl b) H') E
theorem op_eqO (F : FnOk X.prog X.w X.K X.mg X.base CX k f fd ps sp) (hr : Room k X.A) (hb : Binds X.K fd ps []) (hx : Passes CX X E) (hs : PySem.W.findIn X.K (.ref C) "__eq__" = some (some (.ref f))) (hf : PySem.W.isFn X.K (.ref f) = true) : OpR X (compareOp .Eq) (rEqO C sp E) := by
  intro pins s σ H x y v u Q I rx ry h
  obtain ⟨a, b, dx, dy, fs, gs, rfl, rfl, ha, hb2, q⟩ := h
  obtain rfl : v = Value.ref a := rx
  obtain rfl : u = Value.ref b := ry
  obtain ⟨o, od, J⟩ := ins_at I ha
  obtain ⟨o2, od2, J2⟩ := ins_at I hb2
  obtain ⟨m, hF⟩ := I.fr
  show wpAny (model X.prog X.w) X.A (richCompare .Eq (.ref a) (.ref b)) (EP X pins σ Q) X.xe s
  refine PySem.W.cmp_K (op := .Eq) (tb := .ref C) hr.units0 hF I.ok.mod.kin J J2.type (by simp [PySem.W.notFirst]) hs hf (thn (run_fn (us := [.ref a, .ref b]) (vs := [.ref a, .ref b]) F hr hb .nil hx I (.cons rfl (.cons rfl .nil)) q) fun r s1 z => ?_)
  obtain ⟨w, H1, I1, rw1, c, rfl, q1⟩ := z
  cases rw1
  exact ⟨.bl c, H1, I1, rfl, q1⟩
/-- len(a) -/
def rLenO (C : Addr) (sp : Sp) (E : XK) : List V → Hp → VK → Prop := fun xs H Q => ∃ (a dx : Addr) (fs : List (Str × V)), xs = [.ref a] ∧ H a = some (.ins C dx fs) ∧ sp [.ref a] H (fun v H' => ∃ n : Int, v = .int n ∧ 0 ≤ n ∧ n < 2 ^ 63 ∧ Q (.int n) H') E
end
/-! ### len, !=, truth of an own class -/
section
variable {prog : Program} {w : World} {A : Around} {E : Value → Shared → Prop} {s : Shared} {K : PySem.W.Frag} {x C L f : Addr} {h₀ : Heap} {m : Str → Option Value} {ox : Obj} {od : Option Obj} {b tb : Value}
theorem neO_entry {Q : Fin → Shared → Prop} (hu : A.units < cLine) (X : K.In s.heap) (I : PySem.W.InstAt s.heap x ox C od) (hs : PySem.W.findIn K (.ref C) "__eq__" = some (some (.ref f))) (hf : PySem.W.isFn K (.ref f) = true)
    (hcall : wpAny (model prog w) A (call (.ref f) [.ref x, b]) (fun v s' => ∃ c, v = .bool c ∧ Q (.done (.ret (.bool (!c)))) s') E s) :
    wpAny (model prog w) A (Builtin.«object.__ne__» ⟨[.ref x, b], []⟩) Q E s := by
  unfold Builtin.«object.__ne__»
  repeat (first
    | with_reducible refine wpAny_cRoomFor hu ?_
    | (refine wpAny_bind (m := callSpecialIfBound? (.ref x) (Str.ofString "__eq__") [b])
        (PySem.W.ifBound_K X I hs hf (wpAny_mono hcall (fun r s' hr => by
          obtain ⟨c, rfl, hq⟩ := hr
          repeat (first | exact hq | exact wpAny_pure hq | exact wpAny_truthy_bool hq | (refine wpAny_bind (m := truthy (.bool _)) (wpAny_truthy_bool ?_)) | wp_step)) fun _ _ e => e)))
    | wp_step)
theorem ifBound_objNe {M : Model} {args : List Value} {Q : Option Value → Shared → Prop} (X : K.In s.heap) (I : PySem.W.InstAt s.heap x ox C od) (hs : PySem.W.findIn K (.ref C) "__ne__" = some (some (.builtin "object.__ne__")))
    (h : wpAny M A (call (.builtin "object.__ne__") (.ref x :: args)) (fun v => Q (some v)) E s) : wpAny M A (callSpecialIfBound? (.ref x) "__ne__" args) Q E s := by
  simp only [callSpecialIfBound?, bindSpecialIfBound?]
  refine wpAny_holding (wpAny_bind (wpAny_bind (wpAny_bind (I.type.here ((PySem.W.looks_findIn X hs).here ?_)))))
  refine wpAny_bind (wpAny_askSetting (wpAny_ite ?_))
  have fin : wpAny M A (call (.builtin "object.__ne__") ([.ref x] ++ args) >>= fun v => pure (some v)) Q E s := wpAny_bind (wpAny_mono h (fun v s' h' => wpAny_pure h') fun _ _ h' => h')
  split
  · exact wpAny_bind (wpAny_of_eq (F.cmp_object.ne.bind _) (wpAny_pure (by exact fin)))
  · exact wpAny_tryCatch (wpAny_bind (wpAny_of_eq (F.cmp_object.ne.bind _) (wpAny_pure (by exact fin))))
theorem ne_own {Q : Value → Shared → Prop} (hu : A.units + 1 < cLine) (F : PyProof.Rows.Fr h₀ L s.heap m) (X₀ : K.In h₀) (I : PySem.W.InstAt s.heap x ox C od) (hb : PySem.W.Looks (model prog w) s.heap (typeOf b) tb) (hn : PySem.W.notFirst K C tb = true)
    (hm : PySem.W.mroIn K C (.type "object") = some true) (he : PySem.W.findIn K (.ref C) "__ne__" = some (some (.builtin "object.__ne__")))
    (hs : PySem.W.findIn K (.ref C) "__eq__" = some (some (.ref f))) (hf : PySem.W.isFn K (.ref f) = true)
    (h : wpAny (model prog w) A.in1 (call (.ref f) [.ref x, b]) (fun v s' => ∃ c, v = .bool c ∧ Q (.bool (!c)) s') E s) : wpAny (model prog w) A (richCompare .NotEq (.ref x) b) Q E s := by
  have X := X₀.keeps F.keep
  have one : wpAny (model prog w) A (tryCompare (.ref x) (cmpInfo .NotEq).2.1 b) (fun r s' => ∃ v, r = some v ∧ Q v s') E s := by
    unfold tryCompare
    refine wpAny_bind (ifBound_objNe X I he (wpAny_call (codeAny_call_builtin PySem.F.cmp_object.ne.plain PySem.F.cmpEntry_ne (PySem.W.check_slot PySem.F.cmpKind_ne PySem.F.cmpSplit_ne (I.type.andThen (PySem.W.looks_mroIn X hm)) (PySem.F.cmpArgs_ne _ _)
      (neO_entry (A := A.in1) hu X I hs hf (wpAny_mono h (fun v s' hv => ?_) fun _ _ e => e))))))
    obtain ⟨c, rfl, hq⟩ := hv
    exact ⟨c, rfl, wpAny_pure ⟨_, rfl, hq⟩⟩
  unfold richCompare
  simp only [oneThing_ref]
  refine wpAny_holding (wpAny_bind (wpAny_cRoomFor (Nat.lt_of_succ_lt hu) ?_))
  refine wpAny_bind (I.type.here (wpAny_bind (hb.here ?_)))
  split
  · rename_i q
    have e : PySem.W.subIn K tb (.ref C) = some false := by
      rcases Bool.or_eq_true_iff.mp hn with e | e
      · rw [beq_iff_eq.mp e] at q; simp at q
      · exact beq_iff_eq.mp e
    refine wpAny_bind ((PySem.W.looks_subIn X e).here ?_)
    simp only [Bool.false_eq_true, if_false]
    refine wpAny_bind (wpAny_mono one (fun r s' z => ?_) fun _ _ e => e)
    obtain ⟨v, rfl, hq⟩ := z
    exact wpAny_pure hq
  · refine wpAny_bind (wpAny_pure ?_)
    simp only [Bool.false_eq_true, if_false]
    refine wpAny_bind (wpAny_mono one (fun r s' z => ?_) fun _ _ e => e)
    obtain ⟨v, rfl, hq⟩ := z
    exact wpAny_pure hq
end
section
variable {X : Cx} {CX : CXT} {k : Nat} {C f : Addr} {fd : FuncData} {ps : List Str} {sp : Sp} {E : XK}
/-- the callee runs deeper -/
theorem run_fnA {A' : Around} {pins : List (Addr × Obj)} {σ : L2.St} {H : Hp} {s : Shared} {Q : VK} {us : List Value} {vs : List V} (F : FnOk X.prog X.w X.K X.mg X.base CX k f fd ps sp) (hr : Room k A') (hA : ∀ {s : Shared} {H : Hp}, Env0 X.prog X.w X.K X.mg X.base X.A X.stack s H → Env0 X.prog X.w X.K X.mg X.base A' X.stack s H) (hb : Binds X.K fd ps []) (hx : Passes CX X E)
    (I : Inv X pins σ H s) (r : Vals vs us) (h : sp vs H Q E) : wpAny (model X.prog X.w) A' (call (.ref f) us) (EP X pins σ Q) X.xe s := by
  have hl : (us ++ []).length = ps.length := by rw [List.append_nil, ← r.length]; exact F.len _ _ _ _ h
  have hb' := hb s us I.kIn hl
  rw [List.append_nil] at hb'
  refine wpAny_call (codeAny_mono (F.run A' X.stack s H ⟨us, []⟩ us vs Q E hr (hA I.env0) hb' r h) fun r s' hq => ?_)
  cases r with
  | error e => exact hx pins σ H s e s' I hq
  | ok fl =>
    cases fl with
    | ret u => exact I.after hq
    | next => exact False.elim hq
    | brk => exact False.elim hq
    | cont => exact False.elim hq
theorem run_fn1 {pins : List (Addr × Obj)} {σ : L2.St} {H : Hp} {s : Shared} {Q : VK} {us : List Value} {vs : List V} (F : FnOk X.prog X.w X.K X.mg X.base CX k f fd ps sp) (hr : Room (k + 1) X.A) (hb : Binds X.K fd ps []) (hx : Passes CX X E)
    (I : Inv X pins σ H s) (r : Vals vs us) (h : sp vs H Q E) : wpAny (model X.prog X.w) X.A.in1 (call (.ref f) us) (EP X pins σ Q) X.xe s := run_fnA F hr.in1 (fun e => e.in1) hb hx I r h
theorem call_lenO (F : FnOk X.prog X.w X.K X.mg X.base CX k f fd ps sp) (hr : Room (k + 1) X.A) (hb : Binds X.K fd ps []) (hx : Passes CX X E) (hs : PySem.W.findIn X.K (.ref C) "__len__" = some (some (.ref f))) (hf : PySem.W.isFn X.K (.ref f) = true) : CallR X (.builtin "len") (rLenO C sp E) := by
  intro pins s σ H xs us Q I r h
  obtain ⟨a, dx, fs, rfl, ha, q⟩ := h
  obtain ⟨u, rfl, ru⟩ := vals1 r
  obtain rfl : u = Value.ref a := ru
  obtain ⟨o, od, J⟩ := ins_at I ha
  obtain ⟨m, hF⟩ := I.fr
  refine PySem.W.len_K hF I.ok.mod.kin J hs hf (thn (run_fn1 (us := [.ref a]) (vs := [.ref a]) F hr hb hx I (.cons rfl .nil) q) fun v s1 z => ?_)
  obtain ⟨w', H1, I1, rw1, n, rfl, h0, h1, q1⟩ := z
  obtain ⟨t, rfl⟩ := rw1
  exact ⟨⟨h0, h1⟩, .int n, H1, I1.tok _, ⟨_, rfl⟩, q1⟩
/-- a != b, both instances of the class, whose __eq__ is its own -/
def rNeO (C : Addr) (sp : Sp) (E : XK) : R2 := fun x y H Q => ∃ (a b dx dy : Addr) (fs gs : List (Str × V)), x = .ref a ∧ y = .ref b ∧ H a = some (.ins C dx fs) ∧ H b = some (.ins C dy gs) ∧ sp [.ref a, .ref b] H (fun v H' => ∃ b, v = .bl b ∧ Q (.bl (!b)) H') E
theorem op_neO (F : FnOk X.prog X.w X.K X.mg X.base CX k f fd ps sp) (hr : Room (k + 1) X.A) (hb : Binds X.K fd ps []) (hx : Passes CX X E) (hm : PySem.W.mroIn X.K C (.type "object") = some true) (he : PySem.W.findIn X.K (.ref C) "__ne__" = some (some (.builtin "object.__ne__")))
    (hs : PySem.W.findIn X.K (.ref C) "__eq__" = some (some (.ref f))) (hf : PySem.W.isFn X.K (.ref f) = true) : OpR X (compareOp .NotEq) (rNeO C sp E) := by
  intro pins s σ H x y v u Q I rx ry h
  obtain ⟨a, b, dx, dy, fs, gs, rfl, rfl, ha, hb2, q⟩ := h
  obtain rfl : v = Value.ref a := rx
  obtain rfl : u = Value.ref b := ry
  obtain ⟨o, od, J⟩ := ins_at I ha
  obtain ⟨o2, od2, J2⟩ := ins_at I hb2
  obtain ⟨m, hF⟩ := I.fr
  show wpAny (model X.prog X.w) X.A (richCompare .NotEq (.ref a) (.ref b)) (EP X pins σ Q) X.xe s
  have hu := hr.units
  refine ne_own (tb := .ref C) (by omega) hF I.ok.mod.kin J J2.type (by simp [PySem.W.notFirst]) hm he hs hf (thn (run_fn1 (us := [.ref a, .ref b]) (vs := [.ref a, .ref b]) F hr hb hx I (.cons rfl (.cons rfl .nil)) q) fun r s1 z => ?_)
  obtain ⟨w, H1, I1, rw1, c, rfl, q1⟩ := z
  cases rw1
  exact ⟨c, rfl, .bl (!c), H1, I1, rfl, q1⟩
/-- the truth of an instance with an own __len__ and no __bool__ -/
def rTruO (C : Addr) (sp : Sp) (E : XK) : V → Hp → (Bool → Hp → Prop) → Prop := fun x H Q => ∃ (a dx : Addr) (fs : List (Str × V)), x = .ref a ∧ H a = some (.ins C dx fs) ∧ sp [.ref a] H (fun v H' => ∃ n : Int, v = .int n ∧ 0 ≤ n ∧ n < 2 ^ 63 ∧ Q (n != 0) H') E
theorem tru_own {A : Around} {pins : List (Addr × Obj)} {σ : L2.St} {H : Hp} {s : Shared} {R : Bool → Shared → Prop} {a dx : Addr} {fs : List (Str × V)} (I : Inv X pins σ H s) (ha : H a = some (.ins C dx fs))
    (hn : PySem.W.findIn X.K (.ref C) "__bool__" = some none) (hs : PySem.W.findIn X.K (.ref C) "__len__" = some (some (.ref f))) (hf : PySem.W.isFn X.K (.ref f) = true)
    (h : wpAny (model X.prog X.w) A.in1 (call (.ref f) [.ref a]) (fun v s' => ∃ n t, v = .int n t ∧ 0 ≤ n ∧ n < 2 ^ 63 ∧ R (n != 0) { s' with toks := s'.toks + 1 }) X.xe s) : wpAny (model X.prog X.w) A (truthy (.ref a)) R X.xe s := by
  obtain ⟨o, od, J⟩ := ins_at I ha
  obtain ⟨m, hF⟩ := I.fr
  have XI := I.kIn
  unfold truthy
  refine wpAny_bind (m := callSpecial? (.ref a) (Str.ofString "__bool__")) (wpAny_bind (wpAny_bind (J.type.here ((PySem.W.looks_findIn XI hn).here (wpAny_pure ?_)))))
  refine wpAny_bind (wpAny_bind (J.type.here ((PySem.W.looks_findIn XI hs).here ?_)))
  show wpAny _ _ (if (some (Value.ref f)).isNone = true then _ else _) _ _ _
  rw [if_neg (by simp)]
  refine wpAny_bind (m := runValue (.builtin "len" ⟨[.ref a], []⟩)) (wpAny_runValue (codeAny_builtin PySem.entry_len ?_))
  unfold Builtin.«len»
  refine wpAny_bind (m := oneArg "len" _) (wpAny_pure ?_)
  refine wpAny_bind (m := callSpecial? (.ref a) (Str.ofString "__len__")) (PySem.W.special_fn XI J hs (beq_iff_eq.mp hf) (wpAny_mono h (fun r s' hr => ?_) fun _ _ y => y))
  obtain ⟨n, t, rfl, h0, h1, hq⟩ := hr
  refine wpAny_bind (wpAny_holding (wpAny_pure ?_))
  refine wpAny_bind (wpAny_letGo ?_)
  show wpAny _ _ (if n < 0 then _ else _) _ _ _
  rw [if_neg (by omega)]
  show wpAny _ _ (if n ≥ 2 ^ 63 then _ else _) _ _ _
  rw [if_neg (by omega)]
  exact wpAny_bind (wpAny_mkInt (wpAny_pure (wpAny_pure hq)))
theorem tru_lenO (F : FnOk X.prog X.w X.K X.mg X.base CX k f fd ps sp) (hr : Room (k + 1) X.A) (hb : Binds X.K fd ps []) (hx : Passes CX X E) (hn : PySem.W.findIn X.K (.ref C) "__bool__" = some none) (hs : PySem.W.findIn X.K (.ref C) "__len__" = some (some (.ref f)))
    (hf : PySem.W.isFn X.K (.ref f) = true) : TruR X (rTruO C sp E) := by
  intro pins s σ H x v Q I rx h
  obtain ⟨a, dx, fs, rfl, ha, q⟩ := h
  obtain rfl : v = Value.ref a := rx
  refine tru_own I ha hn hs hf (thn (run_fn1 (us := [.ref a]) (vs := [.ref a]) F hr hb hx I (.cons rfl .nil) q) fun r s1 z => ?_)
  obtain ⟨w', H1, I1, rw1, n, rfl, h0, h1, q1⟩ := z
  obtain ⟨t, rfl⟩ := rw1
  exact ⟨n, t, rfl, h0, h1, H1, I1.tok _, q1⟩
end
section
variable {prog : Program} {w : World} {A : Around} {E : Value → Shared → Prop} {s : Shared} {a : Addr}
theorem bool_own {R : Value → Shared → Prop} (h : ∀ A', A' = A.in1.in1 → wpAny (model prog w) A' (truthy (.ref a)) (fun b s' => R (.bool b) s') E s) : wpAny (model prog w) A (call (.type "bool") [.ref a]) R E s := by
  refine callType_codes (Q₁ := fun obj s₁ => s₁.TypeIs obj "bool" ∧ R obj s₁) PySem.F.called_bool (PySem.F.typeCall_bool_1 _) PySem.F.entry_object_init ?_ fun obj s₁ h₁ => ?_
  · refine codeAny_of_tree ?_
    show wpAny _ A.in1.in1 (do checkBuiltinCall "bool.__new__" ⟨[.type "bool", .ref a], []⟩; again (.builtin "bool.__new__" ⟨[.type "bool", .ref a], []⟩)) _ _ s
    refine wpAny_bind (wpAny_of_eq (PySem.F.newCall_bool_1 _) (wpAny_pure ⟨plainId_quiet (by decide +kernel) _, codeAny_builtin PySem.F.entry_bool_new ?_⟩))
    rw [Around.under_plainId (by decide +kernel) _]
    have f1 := PySem.F.conv_sub_bool
    obtain ⟨hp, g, d, tk, os⟩ := s
    repeat (any_goals (first | assumption | (with_reducible refine wpAny_mono (h _ ?_) (fun b s' z => ?_) fun _ _ z => z) | wp_step))
    · rfl
    · exact ⟨rfl, z⟩
  · exact ⟨h₁.1, PySem.F.args_object_init_2 obj _, object_init_meets PySem.F.called_bool.init.lookup PySem.F.called_bool.made (by decide) prog w A.in1 _ s₁ ⟨h₁.1, rfl, h₁.2⟩⟩
end
section
variable {X : Cx} {CX : CXT} {k : Nat} {C f : Addr} {fd : FuncData} {ps : List Str} {sp : Sp} {E : XK}
/-- bool(x) of an instance with an own __len__ -/
def rBoolO (C : Addr) (sp : Sp) (E : XK) : List V → Hp → VK → Prop := fun xs H Q => ∃ (a dx : Addr) (fs : List (Str × V)), xs = [.ref a] ∧ H a = some (.ins C dx fs) ∧ sp [.ref a] H (fun v H' => ∃ n : Int, v = .int n ∧ 0 ≤ n ∧ n < 2 ^ 63 ∧ Q (.bl (n != 0)) H') E
theorem call_boolO (F : FnOk X.prog X.w X.K X.mg X.base CX k f fd ps sp) (hr : Room (k + 3) X.A) (hb : Binds X.K fd ps []) (hx : Passes CX X E) (hn : PySem.W.findIn X.K (.ref C) "__bool__" = some none) (hs : PySem.W.findIn X.K (.ref C) "__len__" = some (some (.ref f)))
    (hf : PySem.W.isFn X.K (.ref f) = true) : CallR X (.type "bool") (rBoolO C sp E) := by
  intro pins s σ H xs us Q I r h
  obtain ⟨a, dx, fs, rfl, ha, q⟩ := h
  obtain ⟨u, rfl, ru⟩ := vals1 r
  obtain rfl : u = Value.ref a := ru
  refine bool_own fun A' e => ?_
  subst e
  refine tru_own I ha hn hs hf (thn (run_fnA (us := [.ref a]) (vs := [.ref a]) F hr.in1.in1.in1 (fun e => e.in1.in1.in1) hb hx I (.cons rfl .nil) q) fun r s1 z => ?_)
  obtain ⟨w', H1, I1, rw1, n, rfl, h0, h1, q1⟩ := z
  obtain ⟨t, rfl⟩ := rw1
  exact ⟨n, t, rfl, h0, h1, .bl (n != 0), H1, I1.tok _, rfl, q1⟩
/-- not x, by a truth that is told -/
theorem pe_notT {r : V → Hp → (Bool → Hp → Prop) → Prop} {a : Expr} {ta : TE} {pos : Pos} (hc : TruR X r) (ha : PE X a ta) : PE X (.UnaryOp .Not a pos) (fun σ H Q => ta σ H fun x H1 => r x H1 fun b H2 => Q (.bl (!b)) H2) := by
  refine ⟨fun pins s σ H Q I h => ?_⟩
  refine UnaryOp_ (thn (ha.run pins s σ H _ I h) fun v s1 ⟨x, H1, I1, r1, q1⟩ => ?_)
  exact not_of (thn (hc pins s1 σ H1 x v _ I1 r1 q1) fun b s2 ⟨H2, I2, q2⟩ => ⟨.bl (!b), H2, I2, rfl, q2⟩)
end
/-! ### iteration over an instance whose own __iter__ hands on the iterator of a tuple -/
/-- at it an iterator over the tuple at l, at its begin -/
def ItTO (l it : Addr) : HO := .ext fun h => h.IsTupleIter it l 0
section
variable {X : Cx}
/-- iter(t), t a tuple -/
def rIterT (K : PySem.W.Frag) (n : Nat) : List V → Hp → VK → Prop := fun xs H Q => ∃ (l : Addr) (zs : List V), xs = [.ref l] ∧ SqT K H l zs ∧ ∀ it, H it = Option.none → n ≤ it → Q (.ref it) (upd H it (ItTO l it))
theorem call_iterT : CallR X (.builtin "iter") (rIterT X.K X.s_0.heap.objs.size) := by
  intro pins s σ H xs us Q I r h
  obtain ⟨l, zs, rfl, hq, q⟩ := h
  obtain rfl := Vals.ref1 r
  obtain ⟨its, rv, pl, hz⟩ := I.tuple hq
  refine Calls.call_function_entry (by decide +kernel) (by decide +kernel) PySem.W.kdk_entry_iter (PySem.W.kdk_args_iter _) ?_
  unfold Builtin.«iter»
  refine wpAny_bind (m := someArgs "iter" 1 2 _) (wpAny_of_eq (a := [Value.ref l]) (by first | rfl | kernel_rfl!) ?_)
  show wpAny _ _ (pyIter (.ref l) >>= _) _ _ _
  refine wpAny_bind (wpAny_pyIter_tuple pl ?_)
  have st : (s.heap.push { cls := .type "tuple_iterator", data := .fields #[.ref l, .int 0 0] }).IsTupleIter s.heap.objs.size l 0 := ⟨_, Heap.get?_push_size _ rfl, rfl, rfl⟩
  exact wpAny_pure ⟨_, rfl, .ref s.heap.objs.size, _, I.laid (t' := s.toks) (o := ItTO l s.heap.objs.size) (fun b u e => Heap.get?_push_of_some _ e) (Nat.le_refl _) ⟨st, ⟨_, Heap.get?_push_size _ rfl⟩, fun h1 h2 q k => q.at fun o e => k o e⟩, rfl, q _ (I.hok.fresh (Nat.le_refl _)) I.sz⟩
/-- a def that is told of the room's size at its call -/
def FnN (P : Program) (w : World) (K : PySem.W.Frag) (mg : Str → Option Value) (base : Heap) (CX : CXT) (k : Nat) (f : Addr) (sp : Nat → Sp) : Prop :=
  ∀ (A : Around) (outer : List Env) (s : Shared) (H : Hp) (us : List Value) (vs : List V) (Q : VK) (E : XK), Room k A → Env0 P w K mg base A outer s H → Vals vs us → sp s.heap.objs.size vs H Q E →
    codeAny (model P w) A (.call (.ref f) { pos := us, kw := [] }) (CR CX outer P w H s Q E) s
theorem FnN.mk0 {P : Program} {w : World} {K : PySem.W.Frag} {mg : Str → Option Value} {base : Heap} {k : Nat} {x qual : Str} {st : Stmt} {f : Addr} {fd : FuncData} {N ps : List Str} {sp : Nat → Sp}
    (F : Fun K x qual st f fd) (S : FnScope N ps (defScope st)) (B : Binds K fd ps []) (len : ∀ n vs H Q E, sp n vs H Q E → vs.length = ps.length)
    (go : ∀ (cdv : Value) (A : Around) (outer : List Env) (s : Shared) (H : Hp) (vs : List V) (Q : VK) (E : XK), Room k (A.deeper (envOfC qual (defScope st) s.heap.objs.size f cdv)) → sp s.heap.objs.size vs H Q E →
      ∃ t, PSs (cxOf CX0 P w K mg base N qual (defScope st) f cdv A outer s H E).nox (defBody st) t ∧ t { nx := fun _ H1 => Q .non H1, rt := Q } (start N vs) H) : FnN P w K mg base CX0 (k + 1) f sp := by
  obtain ⟨oc, od, kV, doc, pm, an, cdv, ct, osl, e, lk, hcd⟩ := F.ex
  subst e
  intro A outer s H us vs Q E hr e0 rv hs
  have hl := len _ _ _ _ _ hs
  have hu : (us ++ []).length = ps.length := by rw [List.append_nil, ← hl]; exact rv.length.symm
  have b := B s us (e0.mod.kin.keeps fun b o z => (e0.bs b o z).1) hu
  rw [List.append_nil] at b
  exact LamX.run_ofS lk hcd S hr e0 b rv hl fun hr1 => by
    obtain ⟨t, ht, q⟩ := go cdv A outer s H vs Q E hr1 hs
    exact ⟨t, ht.nox, q⟩
variable {CX : CXT} {k : Nat} {C f : Addr} {sp : Nat → Sp} {E : XK} {tg iter : Expr} {te : TE}
def iOwnT (K : PySem.W.Frag) (C : Addr) (sp : Nat → Sp) (E : XK) (te : TE) : TI := fun σ H R => te σ H fun x H1 => ∃ (a dx : Addr) (fs : List (Str × V)), x = .ref a ∧ H1 a = some (.ins C dx fs) ∧
  ∀ n, sp n [.ref a] H1 (fun v H2 => ∃ it l, v = .ref it ∧ n ≤ it ∧ H2 it = some (ItTO l it) ∧ R (Itt K l) (ItX.dropH H2 it)) E
theorem pi_ownT (he : PE X iter te) (F : FnN X.prog X.w X.K X.mg X.base CX k f sp) (hr : Room k X.A) (hx : Passes CX X E) (hs : PySem.W.findIn X.K (.ref C) "__iter__" = some (some (.ref f))) (hf : PySem.W.isFn X.K (.ref f) = true) : PI X tg iter (iOwnT X.K C sp E te) := by
  refine ⟨fun pins s σ H R I h => ?_⟩
  refine thn (he.run pins s σ H _ I h) fun u s1 ⟨x, H1, I1, rx, a, dx, fs, ex, ha, q⟩ => ?_
  subst ex
  obtain rfl : u = Value.ref a := rx
  obtain ⟨o, od, J⟩ := ins_at I1 ha
  obtain ⟨m, hF⟩ := I1.fr
  refine PySem.W.owit_iter hF I1.ok.mod.kin J hs hf (wpAny_call (codeAny_mono (F X.A X.stack s1 H1 [.ref a] [.ref a] _ E hr I1.env0 (.cons rfl .nil) (q _)) fun r s' hq => ?_))
  cases r with
  | error e => exact hx pins σ H1 s1 e s' I1 hq
  | ok fl =>
    cases fl with
    | next => exact False.elim hq
    | brk => exact False.elim hq
    | cont => exact False.elim hq
    | ret u =>
      obtain ⟨v, H2, I2, rv, it, l, ev, hn, hi, qR⟩ := I1.after hq
      subst ev
      obtain rfl : u = Value.ref it := rv
      have st : s'.heap.IsTupleIter it l 0 := (I2.hok it _ hi).1
      show PySem.W.OwitIt _ _ _ _ _ _
      unfold PySem.W.OwitIt specialOf
      refine wpAny_bind (wpAny_typeOf st.typeIs ?_)
      refine wpAny_of_eq PySem.F.slot_tuple_iterator_next.lookup ?_
      have hi' := hi
      unfold ItTO at hi'
      refine ⟨it, [it], _, _, ItX.dropH H2 it, rfl, ItX.inv_drop I2 hi', turn_tuple l it, st, fun b hb => ?_, qR⟩
      have e : b = it := by simpa using hb
      rw [e]
      exact ItX.inv_fp I2 hi (Nat.le_trans I1.sz hn)
theorem sqT_drop {K : PySem.W.Frag} {H : Hp} {a it : Addr} {xs : List V} (h : SqT K H a xs) (n : it ≠ a) : SqT K (ItX.dropH H it) a xs := by
  have e : ItX.dropH H it a = H a := ItX.dropH_ne (Ne.symm n)
  unfold SqT Rd at h ⊢
  simp only [e]
  exact h
end


end
/-- what the top has written -/
structure Txt (K : PySem.W.Frag) (mg : Str → Option Value) where
  a_is_whole : Addr
  fd_is_whole : FuncData
  F_is_whole : Fun K "is_whole" "is_whole" s_is_whole a_is_whole fd_is_whole
  m_is_whole : mg "is_whole" = some (.ref a_is_whole)
  a_is_from : Addr
  fd_is_from : FuncData
  F_is_from : Fun K "is_from" "is_from" s_is_from a_is_from fd_is_from
  m_is_from : mg "is_from" = some (.ref a_is_from)
  a_is_between : Addr
  fd_is_between : FuncData
  F_is_between : Fun K "is_between" "is_between" s_is_between a_is_between fd_is_between
  m_is_between : mg "is_between" = some (.ref a_is_between)
  a_need_from : Addr
  fd_need_from : FuncData
  F_need_from : Fun K "need_from" "need_from" s_need_from a_need_from fd_need_from
  m_need_from : mg "need_from" = some (.ref a_need_from)
  a_is_period : Addr
  fd_is_period : FuncData
  F_is_period : Fun K "is_period" "is_period" s_is_period a_is_period fd_is_period
  m_is_period : mg "is_period" = some (.ref a_is_period)
  a_need_items : Addr
  fd_need_items : FuncData
  F_need_items : Fun K "need_items" "need_items" s_need_items a_need_items fd_need_items
  m_need_items : mg "need_items" = some (.ref a_need_items)
  a_narrowest : Addr
  fd_narrowest : FuncData
  F_narrowest : Fun K "narrowest" "narrowest" s_narrowest a_narrowest fd_narrowest
  m_narrowest : mg "narrowest" = some (.ref a_narrowest)
  a_stretch_of : Addr
  fd_stretch_of : FuncData
  F_stretch_of : Fun K "stretch_of" "stretch_of" s_stretch_of a_stretch_of fd_stretch_of
  m_stretch_of : mg "stretch_of" = some (.ref a_stretch_of)
  a_least_play : Addr
  fd_least_play : FuncData
  F_least_play : Fun K "least_play" "least_play" s_least_play a_least_play fd_least_play
  m_least_play : mg "least_play" = some (.ref a_least_play)
  a_pen : Addr
  fd_pen : FuncData
  F_pen : Fun K "_law_pen" "_law_pen" s_pen a_pen fd_pen
  m_pen : mg "_law_pen" = some (.ref a_pen)
  a_draw : Addr
  fd_draw : FuncData
  F_draw : Fun K "_law_draw" "_law_draw" s_draw a_draw fd_draw
  m_draw : mg "_law_draw" = some (.ref a_draw)
  a_pick : Addr
  fd_pick : FuncData
  F_pick : Fun K "_law_pick" "_law_pick" s_pick a_pick fd_pick
  m_pick : mg "_law_pick" = some (.ref a_pick)
  a_stretch : Addr
  fd_stretch : FuncData
  F_stretch : Fun K "_law_stretch" "_law_stretch" s_stretch a_stretch fd_stretch
  m_stretch : mg "_law_stretch" = some (.ref a_stretch)
  a_right : Addr
  fd_right : FuncData
  F_right : Fun K "_law_right" "_law_right" s_right a_right fd_right
  m_right : mg "_law_right" = some (.ref a_right)
  a_law : Addr
  fd_law : FuncData
  F_law : Fun K "law" "law" s_law a_law fd_law
  m_law : mg "law" = some (.ref a_law)
  a_Stretch_init : Addr
  fd_Stretch_init : FuncData
  F_Stretch_init : Fun K "__init__" "Stretch.__init__" s_Stretch_init a_Stretch_init fd_Stretch_init
  a_Stretch_eq : Addr
  fd_Stretch_eq : FuncData
  F_Stretch_eq : Fun K "__eq__" "Stretch.__eq__" s_Stretch_eq a_Stretch_eq fd_Stretch_eq
  n_ValueError : mg "ValueError" = none
  n_abs : mg "abs" = none
  n_bool : mg "bool" = none
  n_enumerate : mg "enumerate" = none
  n_int : mg "int" = none
  n_isinstance : mg "isinstance" = none
  n_len : mg "len" = none
  n_list : mg "list" = none
  n_min : mg "min" = none
  n_range : mg "range" = none
  n_repr : mg "repr" = none
  n_sorted : mg "sorted" = none
  n_tuple : mg "tuple" = none
  u_MP : Value
  m_MP : mg "MOST_PERIOD" = some u_MP
  r_MP : RelV (.int 1000000000000) u_MP
  u_MI : Value
  m_MI : mg "MOST_ITEMS" = some u_MI
  r_MI : RelV (.int 60) u_MI
  a_Stretch : Addr
  m_Stretch : mg "Stretch" = some (.ref a_Stretch)
  cls : Cls K a_Stretch
  mks : Mk K a_Stretch a_Stretch_init
  ki : ∀ (H : Hp) (a dx : Addr) (fs : List (Str × V)), H a = some (.ins a_Stretch dx fs) → TyX K H (.ref a) (.ref a_Stretch)
  kk : PySem.W.kitOne K (.ref a_Stretch) (.ref a_Stretch) = some true
  na : ∀ y ∈ (["begin", "width", "left"] : List Str), NoAttr K a_Stretch y
  fi_eq : PySem.W.findIn K (.ref a_Stretch) "__eq__" = some (some (.ref a_Stretch_eq))
  fi_ne : PySem.W.findIn K (.ref a_Stretch) "__ne__" = some (some (.builtin "object.__ne__"))
  fi_bool : PySem.W.findIn K (.ref a_Stretch) "__bool__" = some Option.none
  fi_len : PySem.W.findIn K (.ref a_Stretch) "__len__" = some Option.none
  mro_o : PySem.W.mroIn K a_Stretch (.type "object") = some true
  fn_eq : PySem.W.isFn K (.ref a_Stretch_eq) = true
section
variable {P : Program} {w : World} {K : PySem.W.Frag} {mg : Str → Option Value} {base : Heap}
theorem b_is_whole (T : Txt K mg) : Binds K T.fd_is_whole ["value"] [] := T.F_is_whole.binds (ps := ["value"]) fun _ _ _ _ _ _ us hl => match us, hl with | [_], _ => rfl
theorem b_is_from (T : Txt K mg) : Binds K T.fd_is_from ["value", "low"] [] := T.F_is_from.binds (ps := ["value", "low"]) fun _ _ _ _ _ _ us hl => match us, hl with | [_, _], _ => rfl
theorem b_is_between (T : Txt K mg) : Binds K T.fd_is_between ["value", "low", "high"] [] := T.F_is_between.binds (ps := ["value", "low", "high"]) fun _ _ _ _ _ _ us hl => match us, hl with | [_, _, _], _ => rfl
theorem b_need_from (T : Txt K mg) : Binds K T.fd_need_from ["value", "low"] [] := T.F_need_from.binds (ps := ["value", "low"]) fun _ _ _ _ _ _ us hl => match us, hl with | [_, _], _ => rfl
theorem b_is_period (T : Txt K mg) : Binds K T.fd_is_period ["value"] [] := T.F_is_period.binds (ps := ["value"]) fun _ _ _ _ _ _ us hl => match us, hl with | [_], _ => rfl
theorem b_need_items (T : Txt K mg) : Binds K T.fd_need_items ["value"] [] := T.F_need_items.binds (ps := ["value"]) fun _ _ _ _ _ _ us hl => match us, hl with | [_], _ => rfl
theorem b_narrowest (T : Txt K mg) : Binds K T.fd_narrowest ["period", "offsets", "skip"] [] := T.F_narrowest.binds (ps := ["period", "offsets", "skip"]) fun _ _ _ _ _ _ us hl => match us, hl with | [_, _, _], _ => rfl
theorem b_stretch_of (T : Txt K mg) : Binds K T.fd_stretch_of ["period", "indexed", "skip"] [] := T.F_stretch_of.binds (ps := ["period", "indexed", "skip"]) fun _ _ _ _ _ _ us hl => match us, hl with | [_, _, _], _ => rfl
theorem b_least_play (T : Txt K mg) : Binds K T.fd_least_play ["period", "offsets", "skip"] [] := T.F_least_play.binds (ps := ["period", "offsets", "skip"]) fun _ _ _ _ _ _ us hl => match us, hl with | [_, _, _], _ => rfl
theorem b_pen (T : Txt K mg) : Binds K T.fd_pen ["_law_script"] [] := T.F_pen.binds (ps := ["_law_script"]) fun _ _ _ _ _ _ us hl => match us, hl with | [_], _ => rfl
theorem b_draw (T : Txt K mg) : Binds K T.fd_draw ["_law_pen_here", "_law_many"] [] := T.F_draw.binds (ps := ["_law_pen_here", "_law_many"]) fun _ _ _ _ _ _ us hl => match us, hl with | [_, _], _ => rfl
theorem b_pick (T : Txt K mg) : Binds K T.fd_pick ["_law_pen_here", "_law_some"] [] := T.F_pick.binds (ps := ["_law_pen_here", "_law_some"]) fun _ _ _ _ _ _ us hl => match us, hl with | [_, _], _ => rfl
theorem b_stretch (T : Txt K mg) : Binds K T.fd_stretch ["_law_period", "_law_offsets", "_law_skip"] [] := T.F_stretch.binds (ps := ["_law_period", "_law_offsets", "_law_skip"]) fun _ _ _ _ _ _ us hl => match us, hl with | [_, _, _], _ => rfl
theorem b_right (T : Txt K mg) : Binds K T.fd_right ["_law_pen_here"] [] := T.F_right.binds (ps := ["_law_pen_here"]) fun _ _ _ _ _ _ us hl => match us, hl with | [_], _ => rfl
theorem b_law (T : Txt K mg) : Binds K T.fd_law ["_law_script"] [] := T.F_law.binds (ps := ["_law_script"]) fun _ _ _ _ _ _ us hl => match us, hl with | [_], _ => rfl
theorem b_Stretch_init (T : Txt K mg) : Binds K T.fd_Stretch_init ["self", "begin", "width", "left"] [] := T.F_Stretch_init.binds (ps := ["self", "begin", "width", "left"]) fun _ _ _ _ _ _ us hl => match us, hl with | [_, _, _, _], _ => rfl
theorem b_Stretch_eq (T : Txt K mg) : Binds K T.fd_Stretch_eq ["self", "other"] [] := T.F_Stretch_eq.binds (ps := ["self", "other"]) fun _ _ _ _ _ _ us hl => match us, hl with | [_, _], _ => rfl

def spWhole : Sp := fun vs H Q _ => ∃ (v : V) (t : String), vs = [v] ∧ NT H v t ∧ Q (.bl (t == "int")) H
theorem ok_is_whole (T : Txt K mg) : FnOk P w K mg base CX0 1 T.a_is_whole T.fd_is_whole ["value"] spWhole := by
  refine T.F_is_whole.ok sc_is_whole (fun vs H Q E h => ?_) (fun cdv A outer s H vs Q E hr h => ?_)
  · obtain ⟨v, t, rfl, _⟩ := h; rfl
  · obtain ⟨v, t, rfl, ht, k⟩ := h
    obtain ⟨b1, b2, h1, h2, h3⟩ := ht.kit
    refine ⟨_, pss_one (ps_ret (pe_and (pe_callB call_isi (by rfl) T.n_isinstance (by decide +kernel) (pa_cons (pv 0) (pa_cons (pe_bltn (v := .ty "int") (u := .type "int") (by rfl) T.n_int (by decide +kernel) rfl) (pa_nil)))) (pe_one (pe_not (pe_callB call_isi (by rfl) T.n_isinstance (by decide +kernel) (pa_cons (pv 0) (pa_cons (pe_bltn (v := .ty "bool") (u := .type "bool") (by rfl) T.n_bool (by decide +kernel) rfl) (pa_nil)))))))), ?_⟩
    refine ⟨_, rfl, v, .ty "int", .type t, .type "int", b1, rfl, .ty _, ht.ty, kit_ty h1, b1, rfl, ?_⟩
    rw [← h3] at k
    cases b1 with
    | false => exact iteF k
    | true => exact iteT ⟨_, rfl, v, .ty "bool", .type t, .type "bool", b2, rfl, .ty _, ht.ty, kit_ty h2, b2, rfl, k⟩
/-- whether v is an integer from l on -/
def fromB (l : Int) : V → Bool
  | .int i => decide (l ≤ i)
  | _ => false
def spFrom : Sp := fun vs H Q _ => ∃ (v : V) (t : String) (l : Int), vs = [v, .int l] ∧ NT H v t ∧ Q (.bl (fromB l v)) H
theorem fromB_no {H : Hp} {v : V} {t : String} {l : Int} (h : NT H v t) (n : (t == "int") = false) : fromB l v = false := by
  cases h <;> first | rfl | cases n
theorem ok_is_from (T : Txt K mg) : FnOk P w K mg base CX0 2 T.a_is_from T.fd_is_from ["value", "low"] spFrom := by
  refine T.F_is_from.ok sc_is_from (fun vs H Q E h => ?_) (fun cdv A outer s H vs Q E hr h => ?_)
  · obtain ⟨v, t, l, rfl, _⟩ := h; rfl
  · obtain ⟨v, t, l, rfl, ht, k⟩ := h
    refine ⟨_, pss_one (ps_ret (pe_and (pe_call (ok_is_whole T) (hr.mono (by decide)) rfl T.m_is_whole T.F_is_whole.kp (b_is_whole T) .nil pass0 (pa_cons (pv 0) (pa_nil))) (pe_one (pe_cmpR op_ge (pv 0) (pv 1) (nomark _))))), ?_⟩
    refine ⟨_, rfl, v, t, rfl, ht, (t == "int"), rfl, ?_⟩
    cases e : (t == "int") with
    | false => rw [fromB_no ht e] at k; exact iteF k
    | true =>
      obtain ⟨i, rfl⟩ := ht.isInt (beq_iff_eq.mp e)
      exact iteT ⟨_, rfl, _, rfl, _, _, rfl, rfl, k⟩

def spBetween : Sp := fun vs H Q _ => ∃ v lo hi : Int, vs = [.int v, .int lo, .int hi] ∧ Q (.bl (decide (lo ≤ v ∧ v ≤ hi))) H
theorem ok_is_between (T : Txt K mg) : FnOk P w K mg base CX0 2 T.a_is_between T.fd_is_between ["value", "low", "high"] spBetween := by
  refine T.F_is_between.ok sc_is_between (fun vs H Q E h => ?_) (fun cdv A outer s H vs Q E hr h => ?_)
  · obtain ⟨v, lo, hi, rfl, _⟩ := h; rfl
  · obtain ⟨v, lo, hi, rfl, k⟩ := h
    refine ⟨_, pss_one (ps_ret (pe_and (pe_call (ok_is_whole T) (hr.mono (by decide)) rfl T.m_is_whole T.F_is_whole.kp (b_is_whole T) .nil pass0 (pa_cons (pv 0) (pa_nil))) (pe_one (pe_chain op_le op_le (pv 1) (pv 0) (pv 2))))), ?_⟩
    refine ⟨_, rfl, .int v, "int", rfl, .int v, true, rfl, iteT ?_⟩
    refine ⟨_, rfl, _, rfl, _, _, rfl, rfl, _, rfl, ?_⟩
    refine ite2 (fun hc => ?_) (fun hc => ?_)
    · have hc := of_decide_eq_true hc
      refine ⟨_, rfl, _, _, rfl, rfl, ?_⟩
      refine Eq.mpr (congrArg (fun b => Q (V.bl b) _) ?_) k
      rw [decide_eq_decide]
      exact ⟨fun z => ⟨hc, z⟩, fun z => z.2⟩
    · have hc : ¬ lo ≤ v := fun z => hc (decide_eq_true z)
      refine Eq.mpr (congrArg (fun b => Q (V.bl b) _) ?_) k
      exact (decide_eq_false fun z => hc z.1).symm
theorem ok_need_from (T : Txt K mg) : FnOk P w K mg base CX0 3 T.a_need_from T.fd_need_from ["value", "low"] (fun vs H Q _ => ∃ v lo : Int, vs = [.int v, .int lo] ∧ lo ≤ v ∧ Q .non H) := by
  refine T.F_need_from.ok sc_need_from (fun vs H Q E h => ?_) (fun cdv A outer s H vs Q E hr h => ?_)
  · obtain ⟨v, lo, rfl, _⟩ := h; rfl
  · obtain ⟨v, lo, rfl, h0, k⟩ := h
    refine ⟨_, pss_one (ps_if (pt_not (pt_val (pe_call (ok_is_from T) (hr.mono (by decide)) rfl T.m_is_from T.F_is_from.kp (b_is_from T) .nil pass0 (pa_cons (pv 0) (pa_cons (pv 1) (pa_nil)))))) (pss_one (ps_never)) (pss_nil)), ?_⟩
    refine ⟨_, rfl, _, rfl, .int v, "int", lo, rfl, .int v, true, (by show V.bl (decide (lo ≤ v)) = V.bl true; rw [decide_eq_true h0]), iteF k⟩
theorem ok_is_period (T : Txt K mg) : FnOk P w K mg base CX0 3 T.a_is_period T.fd_is_period ["value"] (fun vs H Q _ => ∃ v : Int, vs = [.int v] ∧ 2 ≤ v ∧ v ≤ 1000000000000 ∧ Q (.bl true) H) := by
  refine T.F_is_period.ok sc_is_period (fun vs H Q E h => ?_) (fun cdv A outer s H vs Q E hr h => ?_)
  · obtain ⟨v, rfl, _⟩ := h; rfl
  · obtain ⟨v, rfl, h0, h1, k⟩ := h
    refine ⟨_, pss_one (ps_ret (pe_call (ok_is_between T) (hr.mono (by decide)) rfl T.m_is_between T.F_is_between.kp (b_is_between T) .nil pass0 (pa_cons (pv 0) (pa_cons (pe_int) (pa_cons (pe_glob (v := .int 1000000000000) rfl T.m_MP T.r_MP) (pa_nil)))))), ?_⟩
    refine ⟨_, rfl, v, 2, 1000000000000, rfl, ?_⟩
    rw [decide_eq_true ⟨h0, h1⟩]
    exact k
theorem kitA1 {K : PySem.W.Frag} {t u : Value} {us : List Value} (h : PySem.W.kitOne K t u = some true) : PySem.W.kitAny K t (u :: us) = some true := by
  unfold PySem.W.kitAny
  rw [h]
theorem kitA2 {K : PySem.W.Frag} {t u w : Value} {us : List Value} (h : PySem.W.kitOne K t u = some false) (h2 : PySem.W.kitOne K t w = some true) : PySem.W.kitAny K t (u :: w :: us) = some true := by
  unfold PySem.W.kitAny
  rw [h]
  exact kitA1 h2
theorem ok_need_items (T : Txt K mg) : FnOk P w K mg base CX0 1 T.a_need_items T.fd_need_items ["value"] (fun vs H Q _ => ∃ (a : Addr) (xs : List V), vs = [.ref a] ∧ (H a = some (.lst xs) ∨ H a = some (.tup xs)) ∧ xs.length ≤ 60 ∧ ∀ H', Same H H' → Q .non H') := by
  refine T.F_need_items.ok sc_need_items (fun vs H Q E h => ?_) (fun cdv A outer s H vs Q E hr h => ?_)
  · obtain ⟨a, xs, rfl, _⟩ := h; rfl
  · obtain ⟨a, xs, rfl, hS, hl, k⟩ := h
    refine ⟨_, pss_one (ps_if (PW.pt (pw_or (pt_not (pt_val (pe_callB call_isiT (by rfl) T.n_isinstance (by decide +kernel) (pa_cons (pv 0) (pa_cons (pe_tup (pa_cons (pe_bltn (v := .ty "list") (u := .type "list") (by rfl) T.n_list (by decide +kernel) rfl) (pa_cons (pe_bltn (v := .ty "tuple") (u := .type "tuple") (by rfl) T.n_tuple (by decide +kernel) rfl) (pa_nil)))) (pa_nil)))))) (pw_or1 (pt_cmpR op_gt (pe_callB call_len_seq (by rfl) T.n_len (by decide +kernel) (pa_cons (pv 0) (pa_nil))) (pe_glob (v := .int 60) rfl T.m_MI T.r_MI) (nomark _))))) (pss_one (ps_never)) (pss_nil)), ?_⟩
    refine ⟨_, rfl, (by show 2 ≤ sizeLine; decide), fun c kc => ?_⟩
    have s1 := same_new (o := .tup [.ty "list", .ty "tuple"]) kc
    rcases hS with hS | hS
    · refine ⟨.ref a, c, _, .type "list", [.type "list", .type "tuple"], true, rfl, upd_same, .cons (.ty _) (.cons (.ty _) .nil), .base (.lst (s1 _ _ hS)), kitA1 (kit_ty (by decide +kernel)), true, rfl, ?_⟩
      refine ⟨_, rfl, a, xs, rfl, .inl (SqL.of (s1 _ _ hS)), _, _, rfl, rfl, false, (congrArg V.bl (decide_eq_false (by omega))), iteF ?_⟩
      exact k _ s1
    · refine ⟨.ref a, c, _, .type "tuple", [.type "list", .type "tuple"], true, rfl, upd_same, .cons (.ty _) (.cons (.ty _) .nil), .base (.tup (s1 _ _ hS)), kitA2 (kit_ty (by decide +kernel)) (kit_ty (by decide +kernel)), true, rfl, ?_⟩
      refine ⟨_, rfl, a, xs, rfl, .inr (SqT.of (s1 _ _ hS)), _, _, rfl, rfl, false, (congrArg V.bl (decide_eq_false (by omega))), iteF ?_⟩
      exact k _ s1
theorem sqL_same {K : PySem.W.Frag} {H H' : Hp} {a : Addr} {xs : List V} (s : Same H H') (h : SqL K H a xs) : SqL K H' a xs := by
  rcases h with (h | ⟨o, h⟩) | h
  · exact .inl (.inl (s _ _ h))
  · exact .inl (.inr ⟨o, s _ _ h⟩)
  · exact .inr h
theorem sqT_same {K : PySem.W.Frag} {H H' : Hp} {a : Addr} {xs : List V} (s : Same H H') (h : SqT K H a xs) : SqT K H' a xs := by
  rcases h with (h | ⟨o, h⟩) | h
  · exact .inl (.inl (s _ _ h))
  · exact .inl (.inr ⟨o, s _ _ h⟩)
  · exact .inr h
def prAt (p : Int) (rows : List Int) (kk j : Nat) : Int × Int := ((NM.dbl p rows).getD (j + kk - 1) 0 - rows.getD j 0, rows.getD j 0)
theorem same_up {H H' : Hp} {D : Addr} {o : HO} (s : Same H H') (n : H D = Option.none) : Same H (upd H' D o) := fun b ob e => by rw [upd_ne (ne_of_none e n)]; exact s b ob e
theorem PrsAt.snoc {H H' : Hp} {ts : List Addr} {qs : List (Int × Int)} {c : Addr} {q : Int × Int} (h : PrsAt H ts qs) (s : ∀ b zs, H b = some (.tup zs) → H' b = some (.tup zs)) (hc : H' c = some (.tup [.int q.1, .int q.2])) : PrsAt H' (ts ++ [c]) (qs ++ [q]) := by
  refine ⟨by rw [List.length_append, List.length_append, h.1]; rfl, fun i t q' h1 h2 => ?_⟩
  by_cases hi : i < ts.length
  · rw [List.getElem?_append_left hi] at h1
    rw [List.getElem?_append_left (by rw [← h.1]; exact hi)] at h2
    exact s _ _ (h.2 i t q' h1 h2)
  · rw [List.getElem?_append_right (by omega)] at h1
    rw [List.getElem?_append_right (by rw [← h.1]; omega)] at h2
    have l1 := (List.getElem?_eq_some_iff.mp h1).1
    rw [List.length_singleton] at l1
    have e1 : i - ts.length = 0 := by omega
    rw [e1] at h1
    rw [← h.1, e1] at h2
    cases h1
    cases h2
    exact hc
theorem minPair_of {p : Int} {rows : List Int} {kk : Nat} {q : Int × Int} (k0 : 0 < kk) (kn : kk ≤ rows.length) (hq : q ∈ (List.range rows.length).map (prAt p rows kk)) (hmin : ∀ q' ∈ (List.range rows.length).map (prAt p rows kk), NM.lexLe q.1 q.2 q'.1 q'.2) : NM.MinPair p rows kk q.1 q.2 := by
  obtain ⟨j, hj, rfl⟩ := List.mem_map.mp hq
  rw [List.mem_range] at hj
  have dl : (NM.dbl p rows).length = rows.length + rows.length := by unfold NM.dbl; rw [List.length_append, List.length_map]
  have get1 : ∀ j, j < rows.length → rows[j]? = some (rows.getD j 0) := fun j h => by rw [List.getD_eq_getElem?_getD, List.getElem?_eq_getElem h]; rfl
  have get2 : ∀ j, j < (NM.dbl p rows).length → (NM.dbl p rows)[j]? = some ((NM.dbl p rows).getD j 0) := fun j h => by rw [List.getD_eq_getElem?_getD, List.getElem?_eq_getElem h]; rfl
  refine ⟨⟨j, _, _, hj, get1 j hj, get2 (j + kk - 1) (by omega), rfl, rfl⟩, fun i x y hi hx hy => ?_⟩
  have m := hmin (prAt p rows kk i) (List.mem_map.mpr ⟨i, List.mem_range.mpr hi, rfl⟩)
  rw [get1 i hi] at hx
  rw [get2 (i + kk - 1) (by omega)] at hy
  cases hx
  cases hy
  exact m
def spNarrow (K : PySem.W.Frag) : Sp := fun vs H Q _ => ∃ (p k : Int) (a : Addr) (os : List Int), vs = [.int p, .ref a, .int k] ∧ SqL K H a (os.map V.int) ∧ os.length ≤ 60 ∧ 0 ≤ k ∧ ∀ (t : Addr) (H' : Hp) (w b : Int), Same H H' → NM.Narrow p os ((os.length : Nat) - k) w b → H' t = some (.tup [.int b, .int w]) → Q (.ref t) H'
theorem ok_narrowest (T : Txt K mg) : FnOk P w K mg base CX0 1 T.a_narrowest T.fd_narrowest ["period", "offsets", "skip"] (spNarrow K) := by
  refine T.F_narrowest.ok sc_narrowest (fun vs H Q E h => ?_) (fun cdv A outer s H vs Q E hr h => ?_)
  · obtain ⟨p, k, a, os, rfl, _⟩ := h; rfl
  · obtain ⟨p, k, a, os, rfl, hS, hl, hk, q⟩ := h
    refine ⟨_, pss_cons (ps_set (i := 3) sc_narrowest.nd rfl (Or.inr rfl) (pe_op op_sub (pe_callB call_len_seq (by rfl) T.n_len (by decide +kernel) (pa_cons (pv 1) (pa_nil))) (pv 2)))
      (pss_cons (ps_if (pt_cmpR op_le (pv 3) (pe_int) (nomark _)) (pss_one (ps_ret (pe_tup (pa_cons (pe_int) (pa_cons (pe_int) (pa_nil)))))) (pss_nil))
      (pss_cons (ps_set (i := 4) sc_narrowest.nd rfl (Or.inr rfl) (pe_callB cr_sorted (by rfl) T.n_sorted (by decide +kernel) (pa_cons (pv 1) (pa_nil))))
      (pss_cons (ps_set (i := 4) sc_narrowest.nd rfl (Or.inr rfl) (pe_op op_cat (pv 4) (pe_lc (own := [("offset", 5)]) (g := gName 5) (tt := tYes) rfl sc_narrowest.nd (pi_list (pv 4)) (blkOk_by (own := [("offset", 5)]) (N := ["period", "offsets", "skip", "needed", "rows", "offset", "width", "begin", "at"]) (sc := defScope s_narrowest) (by decide +kernel)) (fun _ _ _ _ _ => pg_name (i := 5) sc_narrowest.nd rfl (Or.inl rfl)) (fun _ _ _ _ _ => pts_nil) (fun _ _ _ _ _ => pe_op op_add (pv 5) (pv 0)))))
      (pss_cons (ps_asg (pe_callB (cr_minP rfl hr.units) (by rfl) T.n_min (by decide +kernel) (pa_cons (pe_lc (own := [("at", 8)]) (g := gName 8) (tt := tYes) rfl sc_narrowest.nd (pi_range1 (by rfl) T.n_range (pa_cons (pe_callB call_len_seq (by rfl) T.n_len (by decide +kernel) (pa_cons (pv 1) (pa_nil))) (pa_nil))) (blkOk_by (own := [("at", 8)]) (N := ["period", "offsets", "skip", "needed", "rows", "offset", "width", "begin", "at"]) (sc := defScope s_narrowest) (by decide +kernel)) (fun _ _ _ _ _ => pg_name (i := 8) sc_narrowest.nd rfl (Or.inl rfl)) (fun _ _ _ _ _ => pts_nil) (fun _ _ _ _ _ => pe_tup (pa_cons (pe_op op_sub (pe_ix (ix_list2 K (by rfl)) (pv 4) (pe_op op_sub (pe_op op_add (pv 8) (pv 3)) (pe_int)) (fun _ _ => rfl)) (pe_ix (ix_list2 K (by rfl)) (pv 4) (pv 8) (fun _ _ => rfl))) (pa_cons (pe_ix (ix_list2 K (by rfl)) (pv 4) (pv 8) (fun _ _ => rfl)) (pa_nil))))) (pa_nil))) (pg_tup rfl (pgs_cons (pg_name (i := 6) sc_narrowest.nd rfl (Or.inl rfl)) (pgs_cons (pg_name (i := 7) sc_narrowest.nd rfl (Or.inl rfl)) (pgs_nil)))))
      (pss_one (ps_ret (pe_tup (pa_cons (pv 7) (pa_cons (pv 6) (pa_nil)))))))))), ?_⟩
    refine ⟨_, rfl, a, _, rfl, .inl hS, ?_⟩
    refine ⟨_, rfl, _, _, rfl, rfl, ?_⟩
    refine ⟨_, rfl, _, _, rfl, rfl, _, rfl, ?_⟩
    rw [List.length_map]
    refine ite2 (fun hc => ?_) (fun hc => ?_)
    · have hc := of_decide_eq_true hc
      refine ⟨(by show 2 ≤ sizeLine; decide), fun t ht => ?_⟩
      exact q t _ 0 0 (same_new ht) (.inl ⟨hc, rfl, rfl⟩) upd_same
    · have hc : ¬ ((os.length : Nat) : Int) - k ≤ 0 := fun z => hc (decide_eq_true z)
      refine ⟨_, rfl, a, os, rfl, hS, (by omega), fun rows r hperm hsort hr0 => ?_⟩
      have s1 := same_new (o := .lst (rows.map V.int)) hr0
      have eR : (upd H r (.lst (rows.map V.int))) r = some (.lst (rows.map V.int)) := upd_same
      generalize upd H r (.lst (rows.map V.int)) = H1 at s1 eR ⊢
      have lr : rows.length ≤ 60 := by rw [hperm.length_eq]; exact hl
      refine ⟨_, rfl, _, rfl, r, rfl, ⟨_, SqL.of eR⟩, fun D hD => lc_list (K := K) (a := r) (xs := rows.map V.int) (fun i H' => H' = upd H1 D (.lst (((rows.take i).map (· + p)).map V.int))) rfl (fun i H' _ e => by rw [e]; exact SqL.of (same_new hD _ _ eR)) ?_ ?_⟩
      · rintro i v H' hi rfl
        rw [List.getElem?_map] at hi
        obtain ⟨z, hz, rfl⟩ := Option.map_eq_some_iff.mp hi
        have li := (List.getElem?_eq_some_iff.mp hz).1
        refine ⟨rfl, _, rfl, _, rfl, _, _, rfl, rfl, _, upd_same, ?_, ?_⟩
        · rw [List.length_map, List.length_map]
          exact Nat.lt_of_le_of_lt (List.length_take_le _ _) (Nat.lt_of_le_of_lt (show i ≤ 60 by omega) (by decide))
        · rw [upd_upd, List.take_add_one, hz, List.map_append, List.map_append]
          rfl
      · rintro H' rfl
        rw [List.length_map, List.take_length]
        have s2 := same_new (o := .lst ((rows.map (· + p)).map V.int)) hD
        refine ⟨r, D, _, _, rfl, rfl, s2 _ _ eR, upd_same, ?_, fun R hR => ?_⟩
        · rw [List.length_map, List.length_map, List.length_map]
          exact Nat.le_trans (show rows.length + rows.length ≤ 120 by omega) (by decide)
        have ed : rows.map V.int ++ (rows.map (· + p)).map V.int = (NM.dbl p rows).map V.int := by unfold NM.dbl; rw [List.map_append]
        rw [ed] at *
        have s3 := same_new (o := .lst ((NM.dbl p rows).map V.int)) hR
        have eD : (upd (upd H1 D (.lst ((rows.map (· + p)).map V.int))) R (.lst ((NM.dbl p rows).map V.int))) R = some (.lst ((NM.dbl p rows).map V.int)) := upd_same
        have s123 := s1.trans (s2.trans s3)
        generalize upd (upd H1 D (.lst ((rows.map (· + p)).map V.int))) R (.lst ((NM.dbl p rows).map V.int)) = H2 at s3 eD s123 ⊢
        obtain ⟨kk, hkk⟩ : ∃ kk : Nat, ((os.length : Nat) : Int) - k = (kk : Int) := ⟨(((os.length : Nat) : Int) - k).toNat, by omega⟩
        have k0 : 0 < kk := by omega
        have kn : kk ≤ rows.length := by rw [hperm.length_eq]; omega
        have ln : rows.length = os.length := hperm.length_eq
        refine ⟨_, rfl, a, _, rfl, .inl (sqL_same s123 hS), _, rfl, ?_⟩
        have los : (os.map V.int).length = os.length := List.length_map ..
        rw [los]
        refine ⟨by omega, by omega, fun E hE => lc_range (lo := 0) (n := ((os.length : Nat) : Int).toNat) (fun i H' => Same H2 H' ∧ ∃ ts : List Addr, H' E = some (.lst (ts.map V.ref)) ∧ PrsAt H' ts ((List.range i).map (prAt p rows kk))) ⟨same_new hE, [], upd_same, rfl, fun i t q h => by simp at h⟩ ?_ ?_⟩
        · rintro i H' hi ⟨sm, ts, hE', hts⟩
          rw [Int.toNat_natCast] at hi
          have eD' := sm _ _ eD
          have i1 : i + kk - 1 < (NM.dbl p rows).length := by unfold NM.dbl; rw [List.length_append, List.length_map]; omega
          have i2 : i < (NM.dbl p rows).length := by unfold NM.dbl; rw [List.length_append, List.length_map]; omega
          have ia : atI ((NM.dbl p rows).map V.int) (0 + (i : Int) + (((os.length : Nat) : Int) - k) - 1) = some (V.int ((NM.dbl p rows).getD (i + kk - 1) 0)) := by
            rw [show 0 + (i : Int) + (((os.length : Nat) : Int) - k) - 1 = ((i + kk - 1 : Nat) : Int) by omega]
            exact atI_nat (by rw [List.getElem?_map, List.getD_eq_getElem?_getD, List.getElem?_eq_getElem i1]; rfl)
          have ib : atI ((NM.dbl p rows).map V.int) (0 + (i : Int)) = some (V.int (rows.getD i 0)) := by
            rw [Int.zero_add]
            have e1 : rows[i]? = some (rows.getD i 0) := by rw [List.getD_eq_getElem?_getD, List.getElem?_eq_getElem (by omega)]; rfl
            exact atI_nat (by rw [List.getElem?_map, NM.dbl_lo e1]; rfl)
          refine ⟨rfl, _, rfl, _, rfl, _, rfl, _, _, rfl, rfl, _, _, rfl, rfl, R, _, _, _, rfl, rfl, SqL.of eD', ia, ?_⟩
          refine ⟨_, rfl, _, rfl, R, _, _, _, rfl, rfl, SqL.of eD', ib, _, _, rfl, rfl, ?_⟩
          refine ⟨_, rfl, _, rfl, R, _, _, _, rfl, rfl, SqL.of eD', ib, (by show 2 ≤ sizeLine; decide), fun c kc => ?_⟩
          have sc := same_new (o := .tup [.int ((NM.dbl p rows).getD (i + kk - 1) 0 - rows.getD i 0), .int (rows.getD i 0)]) kc
          have nE : c ≠ E := fun z => by rw [z, hE'] at kc; cases kc
          have lts : ts.length = i := by rw [hts.1, List.length_map, List.length_range]
          refine ⟨_, sc _ _ hE', (by rw [List.length_map, lts]; exact Nat.lt_of_lt_of_le (show i < 61 by omega) (by decide)), same_up (sm.trans sc) hE, ts ++ [c], (by rw [upd_same, List.map_append]; rfl), ?_⟩
          rw [List.range_succ, List.map_append]
          refine hts.snoc (fun b zs hb => ?_) ?_
          · have nb : b ≠ E := fun z => by rw [z, hE'] at hb; cases hb
            rw [upd_ne nb]
            exact sc _ _ hb
          · rw [upd_ne nE]
            exact upd_same
        · rintro H' ⟨sm, ts, hE', hts⟩
          rw [Int.toNat_natCast] at hts
          refine ⟨E, ts, _, rfl, SqL.of hE', hts, ?_, fun t q' hq hmin ht => ⟨t, _, rfl, SqT.of ht, rfl, _, _, rfl, _, _, rfl, rfl, _, rfl, _, rfl, (by show 2 ≤ sizeLine; decide), fun t2 ht2 => ?_⟩⟩
          · intro z
            have := congrArg List.length z
            rw [List.length_map, List.length_range, List.length_nil] at this
            omega
          · refine q t2 _ q'.1 q'.2 (s123.trans (sm.trans (same_new ht2))) (.inr ⟨by omega, rows, hperm, hsort, ?_⟩) upd_same
            rw [hkk, Int.toNat_natCast]
            rw [← ln] at hq hmin
            exact minPair_of k0 kn hq hmin

def StAt (C : Addr) (H : Hp) (x : Addr) (b w l : V) : Prop := ∃ dx, H x = some (.ins C dx [("begin", b), ("width", w), ("left", l)])
def spStInit (C : Addr) : Sp := fun vs H Q _ => ∃ (x dx : Addr) (b w l : V), vs = [.ref x, b, w, l] ∧ H x = some (.ins C dx []) ∧ ∀ H', (∀ y o, y ≠ x → H y = some o → H' y = some o) → StAt C H' x b w l → Q .non H'
theorem ok_Stretch_init (T : Txt K mg) : FnOk P w K mg base CX0 1 T.a_Stretch_init T.fd_Stretch_init ["self", "begin", "width", "left"] (spStInit T.a_Stretch) := by
  refine T.F_Stretch_init.ok sc_Stretch_init (fun vs H Q E h => ?_) (fun cdv A outer s H vs Q E hr h => ?_)
  · obtain ⟨x, dx, b, w, l, rfl, _⟩ := h; rfl
  · obtain ⟨x, dx, b, w, l, rfl, hx, k⟩ := h
    refine ⟨_, pss_cons (ps_fld (pv 0) (pv 1) rfl)
      (pss_cons (ps_fld (pv 0) (pv 2) rfl)
      (pss_one (ps_fld (pv 0) (pv 3) rfl))), ?_⟩
    refine ⟨_, rfl, _, rfl, x, T.a_Stretch, dx, _, rfl, hx, T.cls, T.na _ (by simp), (by show 0 < 1000; decide), ?_⟩
    refine ⟨_, rfl, _, rfl, x, T.a_Stretch, dx, _, rfl, upd_same, T.cls, T.na _ (by simp), (by show 1 < 1000; decide), ?_⟩
    refine ⟨_, rfl, _, rfl, x, T.a_Stretch, dx, _, rfl, upd_same, T.cls, T.na _ (by simp), (by show 2 < 1000; decide), ?_⟩
    refine k _ (fun y o n e => ?_) ⟨dx, upd_same⟩
    rw [upd_ne n, upd_ne n, upd_ne n]
    exact e
theorem op_two {X : Cx} {f : Value → Value → Sem Value} {r1 r2 : R2} (h1 : OpR X f r1) (h2 : OpR X f r2) : OpR X f (fun x y H Q => r1 x y H Q ∨ r2 x y H Q) := by
  intro pins s σ H x y v u Q I rx ry h
  rcases h with h | h
  · exact h1 pins s σ H x y v u Q I rx ry h
  · exact h2 pins s σ H x y v u Q I rx ry h
theorem canLay_ints : ∀ is : List Int, PyData.canLayAll0 (is.map PyData.int) = true
  | [] => rfl
  | _ :: r => by simp [PyData.canLayAll0, PyData.canLay0, canLay_ints r]
theorem depth_ints : ∀ is : List Int, PyData.depthAll (is.map PyData.int) = 0
  | [] => rfl
  | _ :: r => by simp [PyData.depthAll, PyData.depth, depth_ints r]
theorem shapedT_ints (is : List Int) : SeqAt.shaped (.tuple (is.map PyData.int)) = true := by
  simp [SeqAt.shaped, PyData.canLay0, PyData.depth, canLay_ints, depth_ints]
theorem eqvAll_ij : ∀ is js : List Int, PyData.eqvAll (is.map PyData.int) (js.map PyData.int) = decide (is = js)
  | [], [] => by simp [PyData.eqvAll]
  | [], _ :: _ => by simp [PyData.eqvAll]
  | _ :: _, [] => by simp [PyData.eqvAll]
  | a :: r, b :: t => by
    simp only [List.map_cons, PyData.eqvAll, PyData.eqv, eqvAll_ij r t]
    by_cases h : a = b <;> by_cases h' : r = t <;> simp [h, h']
theorem eqvT_ij (is js : List Int) : PyData.eqv (.tuple (is.map PyData.int)) (.tuple (js.map PyData.int)) = decide (is = js) := by
  rw [PyData.eqv]; exact eqvAll_ij is js
def spStEq (K : PySem.W.Frag) (C : Addr) : Sp := fun vs H Q _ => ∃ (x y : Addr) (b w b' w' : Int) (l l' : V), vs = [.ref x, .ref y] ∧ StAt C H x (.int b) (.int w) l ∧ StAt C H y (.int b') (.int w') l' ∧
  ((∃ (a a' : Addr) (is js : List Int), l = .ref a ∧ l' = .ref a' ∧ SqT K H a (is.map V.int) ∧ SqT K H a' (js.map V.int) ∧ Q (.bl (decide (b = b' ∧ w = w' ∧ is = js))) H) ∨ (∃ i j : Int, l = .int i ∧ l' = .int j ∧ Q (.bl (decide (b = b' ∧ w = w' ∧ i = j))) H))
theorem dpT_ints {H : Hp} {a : Addr} {is : List Int} (h : SqT K H a (is.map V.int)) : Dp K H (.ref a) (.tuple (is.map PyData.int)) := .tup h (dp_ints is)
theorem ok_Stretch_eq (T : Txt K mg) : FnOk P w K mg base CX0 1 T.a_Stretch_eq T.fd_Stretch_eq ["self", "other"] (spStEq K T.a_Stretch) := by
  refine T.F_Stretch_eq.ok sc_Stretch_eq (fun vs H Q E h => ?_) (fun cdv A outer s H vs Q E hr h => ?_)
  · obtain ⟨x, y, b, w, b', w', l, l', rfl, _⟩ := h; rfl
  · obtain ⟨x, y, b, w, b', w', l, l', rfl, ⟨dx, hx⟩, ⟨dy, hy⟩, k⟩ := h
    refine ⟨_, pss_cons (ps_if (PW.pt (pw_or (pt_not (pt_val (pe_callB call_isi (by rfl) T.n_isinstance (by decide +kernel) (pa_cons (pv 1) (pa_cons (pe_glob (v := .ref T.a_Stretch) rfl T.m_Stretch rfl) (pa_nil)))))) (pw_or1 (pt_cmpR op_ne (pe_fld (pv 0) rfl) (pe_fld (pv 1) rfl) (nomark _))))) (pss_one (ps_ret (pe_bl))) (pss_nil))
      (pss_one (ps_ret (pe_and (pe_cmpR op_eq (pe_fld (pv 0) rfl) (pe_fld (pv 1) rfl) (nomark _)) (pe_one (pe_cmpR (op_two op_eq (op_eqD hr.units)) (pe_fld (pv 0) rfl) (pe_fld (pv 1) rfl) (nomark _)))))), ?_⟩
    refine ⟨_, rfl, .ref y, .ref T.a_Stretch, .ref T.a_Stretch, .ref T.a_Stretch, true, rfl, (by constructor), T.ki H y dy _ hy, T.kk, true, rfl, ?_⟩
    refine ⟨_, rfl, x, T.a_Stretch, dx, _, _, rfl, hx, T.cls, T.na _ (by simp), rfl, _, rfl, y, T.a_Stretch, dy, _, _, rfl, hy, T.cls, T.na _ (by simp), rfl, rfl, _, rfl, ?_⟩
    by_cases hb : b = b'
    · subst hb
      refine if_false_of (by rw [decide_eq_true rfl]; rfl) ?_
      refine ⟨_, rfl, x, T.a_Stretch, dx, _, _, rfl, hx, T.cls, T.na _ (by simp), rfl, _, rfl, y, T.a_Stretch, dy, _, _, rfl, hy, T.cls, T.na _ (by simp), rfl, rfl, _, rfl, ?_⟩
      by_cases hw : w = w'
      · subst hw
        refine if_true_of (decide_eq_true rfl) ?_
        refine ⟨_, rfl, x, T.a_Stretch, dx, _, _, rfl, hx, T.cls, T.na _ (by simp), rfl, _, rfl, y, T.a_Stretch, dy, _, _, rfl, hy, T.cls, T.na _ (by simp), rfl, ?_⟩
        rcases k with ⟨a, a', is, js, rfl, rfl, ha, ha', k⟩ | ⟨i, j, rfl, rfl, k⟩
        · refine .inr ⟨_, _, dpT_ints ha, dpT_ints ha', shapedT_ints is, shapedT_ints js, ?_⟩
          refine Eq.mpr (congrArg (fun c => Q (V.bl c) H) ?_) k
          rw [eqvT_ij, decide_eq_decide]
          exact ⟨fun z => ⟨rfl, rfl, z⟩, fun z => z.2.2⟩
        · refine .inl ⟨rfl, ?_⟩
          refine Eq.mpr (congrArg (fun c => Q (V.bl c) H) ?_) k
          rw [decide_eq_decide]
          exact ⟨fun z => ⟨rfl, rfl, by injection z⟩, fun z => by rw [z.2.2]⟩
      · refine if_false_of (decide_eq_false fun z => hw (by injection z)) ?_
        rcases k with ⟨a, a', is, js, rfl, rfl, ha, ha', k⟩ | ⟨i, j, rfl, rfl, k⟩
        · rw [decide_eq_false fun z => hw z.2.1] at k; exact k
        · rw [decide_eq_false fun z => hw z.2.1] at k; exact k
    · refine if_true_of (by rw [decide_eq_false (fun z => hb (by injection z))]; rfl) ?_
      rcases k with ⟨a, a', is, js, rfl, rfl, ha, ha', k⟩ | ⟨i, j, rfl, rfl, k⟩
      · rw [decide_eq_false fun z => hb z.1] at k; exact k
      · rw [decide_eq_false fun z => hb z.1] at k; exact k
def idxd (os : List Int) : List (Int × Int) := (List.range os.length).map fun i : Nat => ((i : Int), os.getD i 0)
def spStretchOf (K : PySem.W.Frag) (C : Addr) : Sp := fun vs H Q _ => ∃ (p k : Int) (a : Addr) (ts : List Addr) (os : List Int), vs = [.int p, .ref a, .int k] ∧ H a = some (.lst (ts.map V.ref)) ∧ PrsAt H ts (idxd os) ∧ os.length ≤ 60 ∧ 0 < p ∧ 0 ≤ k ∧
  ∀ (x lt : Addr) (H' : Hp) (b w : Int), Same H H' → NM.Narrow p os ((os.length : Nat) - k) w b → H' lt = some (.tup ((NM.leftSt p b w os).map fun i : Nat => V.int i)) → StAt C H' x (.int b) (.int w) (.ref lt) → Q (.ref x) H'
theorem filter_range {f : Nat → Bool} {i : Nat} : (List.range (i + 1)).filter f = (List.range i).filter f ++ (if f i = true then [i] else []) := by
  rw [List.range_succ, List.filter_append]
  congr 1
  by_cases h : f i = true
  · rw [List.filter_cons_of_pos h, if_pos h]; rfl
  · rw [List.filter_cons_of_neg h, if_neg h]; rfl
theorem idxd_len (os : List Int) : (idxd os).length = os.length := by unfold idxd; rw [List.length_map, List.length_range]
theorem idxd_at {os : List Int} {i : Nat} (h : i < os.length) : (idxd os)[i]? = some ((i : Int), os.getD i 0) := by
  unfold idxd
  rw [List.getElem?_map, List.getElem?_range h]
  rfl
theorem ok_stretch_of (T : Txt K mg) : FnOk P w K mg base CX0 3 T.a_stretch_of T.fd_stretch_of ["period", "indexed", "skip"] (spStretchOf K T.a_Stretch) := by
  refine T.F_stretch_of.ok sc_stretch_of (fun vs H Q E h => ?_) (fun cdv A outer s H vs Q E hr h => ?_)
  · obtain ⟨p, k, a, ts, os, rfl, _⟩ := h; rfl
  · obtain ⟨p, k, a, ts, os, rfl, ha, hT, hl, hp, hk, q⟩ := h
    refine ⟨_, pss_cons (ps_asg (pe_call (ok_narrowest T) (hr.mono (by decide)) rfl T.m_narrowest T.F_narrowest.kp (b_narrowest T) .nil pass0 (pa_cons (pv 0) (pa_cons (pe_lc (own := [("at", 5), ("offset", 6)]) (tt := tYes) rfl sc_stretch_of.nd (pi_list (pv 1)) (blkOk_by (own := [("at", 5), ("offset", 6)]) (N := ["period", "indexed", "skip", "begin", "width", "at", "offset"]) (sc := defScope s_stretch_of) (by decide +kernel)) (fun _ _ _ _ _ => pg_tup2 K 2 (by rfl) (by rfl) (pgs_cons (pg_name (i := 5) sc_stretch_of.nd rfl (Or.inl rfl)) (pgs_cons (pg_name (i := 6) sc_stretch_of.nd rfl (Or.inl rfl)) (pgs_nil)))) (fun _ _ _ _ _ => pts_nil) (fun _ _ _ _ _ => pv 6)) (pa_cons (pv 2) (pa_nil))))) (pg_tup rfl (pgs_cons (pg_name (i := 3) sc_stretch_of.nd rfl (Or.inr rfl)) (pgs_cons (pg_name (i := 4) sc_stretch_of.nd rfl (Or.inr rfl)) (pgs_nil)))))
      (pss_one (ps_ret (pe_mkR T.mks ((ok_Stretch_init T).raw (b_Stretch_init T) .nil) (hr.mono (by decide)) pass0 rfl T.m_Stretch (pa_cons (pv 3) (pa_cons (pv 4) (pa_cons (pe_callTy call_tuple_of (by rfl) T.n_tuple (by decide +kernel) (pa_cons (pe_lc (own := [("at", 5), ("offset", 6)]) rfl sc_stretch_of.nd (pi_list (pv 1)) (blkOk_by (own := [("at", 5), ("offset", 6)]) (N := ["period", "indexed", "skip", "begin", "width", "at", "offset"]) (sc := defScope s_stretch_of) (by decide +kernel)) (fun _ _ _ _ _ => pg_tup2 K 2 (by rfl) (by rfl) (pgs_cons (pg_name (i := 5) sc_stretch_of.nd rfl (Or.inl rfl)) (pgs_cons (pg_name (i := 6) sc_stretch_of.nd rfl (Or.inl rfl)) (pgs_nil)))) (fun _ _ _ _ _ => pts_one (pt_cmpR op_gt (pe_op op_modN (pe_op op_sub (pv 6) (pv 3)) (pv 0)) (pv 4) (nomark _))) (fun _ _ _ _ _ => pv 5)) (pa_nil))) (pa_nil))))))), ?_⟩
    have lt : ts.length = os.length := by rw [hT.1, idxd_len]
    refine ⟨_, rfl, _, rfl, a, rfl, ⟨_, SqL.of ha⟩, fun D hD => lc_list (K := K) (a := a) (xs := ts.map V.ref) (fun i H' => H' = upd H D (.lst ((os.take i).map V.int))) rfl (fun i H' _ e => by rw [e]; exact SqL.of (same_new hD _ _ ha)) ?_ ?_⟩
    · rintro i v H' hi rfl
      rw [List.getElem?_map] at hi
      obtain ⟨t, ht, rfl⟩ := Option.map_eq_some_iff.mp hi
      have li : i < os.length := by rw [← lt]; exact (List.getElem?_eq_some_iff.mp ht).1
      have hti := hT.2 i t _ ht (idxd_at li)
      refine ⟨t, _, rfl, SqT.of (same_new hD _ _ hti), rfl, _, _, rfl, _, _, rfl, rfl, ?_⟩
      have eo : os[i]? = some (os.getD i 0) := by rw [List.getD_eq_getElem?_getD, List.getElem?_eq_getElem li]; rfl
      refine ⟨rfl, _, rfl, _, upd_same, ?_, ?_⟩
      · rw [List.length_map]
        exact Nat.lt_of_le_of_lt (List.length_take_le _ _) (Nat.lt_of_lt_of_le (show i < 61 by omega) (by decide))
      · rw [upd_upd, List.take_add_one, eo, List.map_append]
        rfl
    · rintro H' rfl
      rw [List.length_map, lt, List.take_length]
      have s1 := same_new (o := .lst (os.map V.int)) hD
      refine ⟨_, rfl, p, k, D, os, rfl, SqL.of upd_same, hl, hk, fun t2 H2 w b s2 hN ht2 => ⟨t2, _, rfl, SqT.of ht2, rfl, _, _, rfl, _, _, rfl, rfl, ?_⟩⟩
      have s12 := s1.trans s2
      have ha2 := s12 _ _ ha
      have hT2 := hT.same s12
      refine ⟨_, rfl, _, rfl, _, rfl, a, rfl, ⟨_, SqL.of ha2⟩, fun D2 hD2 => lc_list (K := K) (a := a) (xs := ts.map V.ref) (fun i H' => H' = upd H2 D2 (.lst (((List.range i).filter fun j => !NM.inSt p b w (os.getD j 0)).map fun j : Nat => V.int j))) rfl (fun i H' _ e => by rw [e]; exact SqL.of (same_new hD2 _ _ ha2)) ?_ ?_⟩
      · rintro i v H' hi rfl
        rw [List.getElem?_map] at hi
        obtain ⟨t, ht, rfl⟩ := Option.map_eq_some_iff.mp hi
        have li : i < os.length := by rw [← lt]; exact (List.getElem?_eq_some_iff.mp ht).1
        have hti := hT2.2 i t _ ht (idxd_at li)
        refine ⟨t, _, rfl, SqT.of (same_new hD2 _ _ hti), rfl, _, _, rfl, _, _, rfl, rfl, ?_⟩
        refine ⟨rfl, _, rfl, _, rfl, _, _, rfl, rfl, _, rfl, _, _, rfl, rfl, (by omega), _, rfl, _, _, rfl, rfl, _, rfl, ?_⟩
        have ec : decide (w < ((os.getD i 0) - b).fmod p) = !NM.inSt p b w (os.getD i 0) := by
          unfold NM.inSt
          rw [Int.fmod_eq_emod_of_nonneg _ (by omega), ← decide_not, decide_eq_decide]
          omega
        refine ite2 (fun hc => ?_) (fun hc => ?_)
        · have hc : (!NM.inSt p b w (os.getD i 0)) = true := ec.symm.trans hc
          refine ⟨_, rfl, _, upd_same, ?_, ?_⟩
          · have : ((List.range i).filter fun j => !NM.inSt p b w (os.getD j 0)).length ≤ (List.range i).length := List.length_filter_le _ _
            rw [List.length_map]
            rw [List.length_range] at this
            exact Nat.lt_of_lt_of_le (show _ < 61 by omega) (by decide)
          · rw [upd_upd, filter_range, if_pos hc, List.map_append]
            rfl
        · have hc : ¬ (!NM.inSt p b w (os.getD i 0)) = true := fun z => hc (ec.trans z)
          rw [filter_range, if_neg hc, List.append_nil]
      · rintro H' rfl
        rw [List.length_map, lt]
        have s3 := same_new (o := .lst (((List.range os.length).filter fun j => !NM.inSt p b w (os.getD j 0)).map fun j : Nat => V.int j)) hD2
        refine ⟨D2, _, rfl, .inl ⟨SqL.of upd_same, fun tp htp => ?_⟩⟩
        have s4 := same_new (o := .tup (((List.range os.length).filter fun j => !NM.inSt p b w (os.getD j 0)).map fun j : Nat => V.int j)) htp
        have eT : (upd (upd H2 D2 (.lst (((List.range os.length).filter fun j => !NM.inSt p b w (os.getD j 0)).map fun j : Nat => V.int j))) tp (.tup (((List.range os.length).filter fun j => !NM.inSt p b w (os.getD j 0)).map fun j : Nat => V.int j))) tp = some (.tup ((NM.leftSt p b w os).map fun j : Nat => V.int j)) := upd_same
        have sG := s12.trans (s3.trans s4)
        generalize upd (upd H2 D2 (.lst (((List.range os.length).filter fun j => !NM.inSt p b w (os.getD j 0)).map fun j : Nat => V.int j))) tp (.tup (((List.range os.length).filter fun j => !NM.inSt p b w (os.getD j 0)).map fun j : Nat => V.int j)) = G at eT sG ⊢
        intro x dx hx hd hn
        have s5 := same_new (o := .own x) hd
        have hx1 : (upd G dx (.own x)) x = Option.none := by rw [upd_ne (Ne.symm hn)]; exact hx
        have s6 := same_new (o := .ins T.a_Stretch dx []) hx1
        refine ⟨x, dx, .int b, .int w, .ref tp, rfl, upd_same, fun H' keep st => ⟨rfl, ?_⟩⟩
        have sAll : Same G H' := fun y o e => keep y o (ne_of_none e hx) ((s5.trans s6) _ _ e)
        exact q x tp H' b w (sG.trans sAll) hN (sAll _ _ eT) st
theorem walk_enumT {K : PySem.W.Frag} {a : Addr} {xs : List V} : Walk (IteT K a) xs.length (fun H => SqT K H a xs) (YPair (fun i => some (.int (i : Nat))) (fun i => xs[i]?)) := by
  refine ⟨fun j _ hj w => ⟨xs, xs[j], w, by simp [hj]⟩, fun _ w => ⟨xs, w, Nat.le_refl _⟩, fun j H v H' _ w y => ?_⟩
  obtain ⟨T, x, y1, y2, y3, y4⟩ := y
  exact ⟨T, _, x, y1, y2, y3, rfl, y4 xs w⟩
def spLeastPlay (K : PySem.W.Frag) (C : Addr) : Sp := fun vs H Q _ => ∃ (p k : Int) (a : Addr) (os : List Int), vs = [.int p, .ref a, .int k] ∧ (H a = some (.lst (os.map V.int)) ∨ H a = some (.tup (os.map V.int))) ∧ os.length ≤ 60 ∧ 2 ≤ p ∧ p ≤ 1000000000000 ∧ 0 ≤ k ∧ (∀ o ∈ os, 0 ≤ o ∧ o < p) ∧
  ∀ (x lt : Addr) (H' : Hp) (b w : Int), Same H H' → NM.Narrow p os ((os.length : Nat) - k) w b → H' lt = some (.tup ((NM.leftSt p b w os).map fun i : Nat => V.int i)) → StAt C H' x (.int b) (.int w) (.ref lt) → Q (.ref x) H'
theorem ok_least_play (T : Txt K mg) : FnOk P w K mg base CX0 4 T.a_least_play T.fd_least_play ["period", "offsets", "skip"] (spLeastPlay K T.a_Stretch) := by
  refine T.F_least_play.ok sc_least_play (fun vs H Q E h => ?_) (fun cdv A outer s H vs Q E hr h => ?_)
  · obtain ⟨p, k, a, os, rfl, _⟩ := h; rfl
  · obtain ⟨p, k, a, os, rfl, ha, hl, hp, hp1, hk, hr0, q⟩ := h
    refine ⟨_, pss_cons (ps_if (pt_not (pt_val (pe_call (ok_is_period T) (hr.mono (by decide)) rfl T.m_is_period T.F_is_period.kp (b_is_period T) .nil pass0 (pa_cons (pv 0) (pa_nil))))) (pss_one (ps_never)) (pss_nil))
      (pss_cons (ps_expr (pe_call (ok_need_items T) (hr.mono (by decide)) rfl T.m_need_items T.F_need_items.kp (b_need_items T) .nil pass0 (pa_cons (pv 1) (pa_nil))))
      (pss_cons (ps_for PassesOwn.never rfl (pi_enum2 (by rfl) T.n_enumerate (pa_cons (pv 1) pa_nil)) (pg_tup rfl (pgs_cons (pg_name (i := 3) sc_least_play.nd rfl (Or.inl rfl)) (pgs_cons (pg_name (i := 4) sc_least_play.nd rfl (Or.inl rfl)) (pgs_nil)))) (pss_one (ps_if (pt_not (pt_val (pe_call (ok_is_between T) (hr.mono (by decide)) rfl T.m_is_between T.F_is_between.kp (b_is_between T) .nil pass0 (pa_cons (pv 4) (pa_cons (pe_int) (pa_cons (pe_op op_sub (pv 0) (pe_int)) (pa_nil))))))) (pss_one (ps_never)) (pss_nil))))
      (pss_cons (ps_expr (pe_call (ok_need_from T) (hr.mono (by decide)) rfl T.m_need_from T.F_need_from.kp (b_need_from T) .nil pass0 (pa_cons (pv 2) (pa_cons (pe_int) (pa_nil)))))
      (pss_one (ps_ret (pe_call (ok_stretch_of T) (hr.mono (by decide)) rfl T.m_stretch_of T.F_stretch_of.kp (b_stretch_of T) .nil pass0 (pa_cons (pv 0) (pa_cons (pe_listEnum rfl (by rfl) T.n_list (by rfl) T.n_enumerate (pa_cons (pv 1) (pa_nil))) (pa_cons (pv 2) (pa_nil)))))))))), ?_⟩
    refine ⟨_, rfl, p, rfl, hp, hp1, true, rfl, iteF ?_⟩
    refine ⟨_, rfl, a, os.map V.int, rfl, ha, by rw [List.length_map]; exact hl, fun H1 s1 => ?_⟩
    refine ⟨_, rfl, a, os.map V.int, rfl, ?_⟩
    rcases ha with ha | ha
    · refine .inl ⟨SqL.of (s1 _ _ ha), ?_⟩
      refine for_it walk_enum (fun i σ H' => Same H1 H' ∧ ∃ x3 x4 : Option V, σ = [some (.int p), some (.ref a), some (.int k), x3, x4]) ⟨fun _ _ e => e, _, _, rfl⟩ (fun i σ H' _ h => SqL.of (h.1 _ _ (s1 _ _ ha))) ?_ ?_
      · rintro i x σ H2 H' hi ⟨sm, x3, x4, rfl⟩ ⟨t, y, z, rfl, ht, rfl, ey, ez⟩
        cases ey
        have ez : (os.map V.int)[i]? = some z := ez
        rw [List.getElem?_map] at ez
        obtain ⟨o, eo, rfl⟩ := Option.map_eq_some_iff.mp ez
        have st := same_new (o := .tup [.int (i : Nat), .int o]) ht
        have ro := hr0 o (List.mem_of_getElem? eo)
        refine ⟨t, _, rfl, SqT.of upd_same, rfl, _, _, rfl, _, _, rfl, rfl, ?_⟩
        refine ⟨_, rfl, _, rfl, _, _, rfl, rfl, o, 0, p - 1, rfl, true, (congrArg V.bl (decide_eq_true (by omega))), iteF ?_⟩
        exact ⟨sm.trans st, _, _, rfl⟩
      · rintro σ H2 ⟨sm, x3, x4, rfl⟩
        refine ⟨_, rfl, k, 0, rfl, hk, ?_⟩
        refine ⟨_, rfl, _, rfl, a, os.map V.int, rfl, .inl (SqL.of (sm _ _ (s1 _ _ ha))), fun H3 l ts s3 hl0 hl3 lts hts => ?_⟩
        rw [List.length_map] at lts
        refine ⟨_, rfl, p, k, l, ts, os, rfl, hl3, ⟨by rw [lts, idxd_len], fun i t qq h1 h2 => ?_⟩, hl, by omega, hk, fun x lt H4 b w s4 hN hlt st => ?_⟩
        · have li : i < os.length := by rw [← idxd_len os]; exact (List.getElem?_eq_some_iff.mp h2).1
          rw [idxd_at li] at h2
          cases h2
          exact hts i t _ h1 (by rw [List.getElem?_map, List.getD_eq_getElem?_getD, List.getElem?_eq_getElem li]; rfl)
        · exact q x lt H4 b w (s1.trans (sm.trans (s3.trans s4))) hN hlt st
    · refine .inr ⟨SqT.of (s1 _ _ ha), ?_⟩
      refine for_it walk_enumT (fun i σ H' => Same H1 H' ∧ ∃ x3 x4 : Option V, σ = [some (.int p), some (.ref a), some (.int k), x3, x4]) ⟨fun _ _ e => e, _, _, rfl⟩ (fun i σ H' _ h => SqT.of (h.1 _ _ (s1 _ _ ha))) ?_ ?_
      · rintro i x σ H2 H' hi ⟨sm, x3, x4, rfl⟩ ⟨t, y, z, rfl, ht, rfl, ey, ez⟩
        cases ey
        have ez : (os.map V.int)[i]? = some z := ez
        rw [List.getElem?_map] at ez
        obtain ⟨o, eo, rfl⟩ := Option.map_eq_some_iff.mp ez
        have st := same_new (o := .tup [.int (i : Nat), .int o]) ht
        have ro := hr0 o (List.mem_of_getElem? eo)
        refine ⟨t, _, rfl, SqT.of upd_same, rfl, _, _, rfl, _, _, rfl, rfl, ?_⟩
        refine ⟨_, rfl, _, rfl, _, _, rfl, rfl, o, 0, p - 1, rfl, true, (congrArg V.bl (decide_eq_true (by omega))), iteF ?_⟩
        exact ⟨sm.trans st, _, _, rfl⟩
      · rintro σ H2 ⟨sm, x3, x4, rfl⟩
        refine ⟨_, rfl, k, 0, rfl, hk, ?_⟩
        refine ⟨_, rfl, _, rfl, a, os.map V.int, rfl, .inr (SqT.of (sm _ _ (s1 _ _ ha))), fun H3 l ts s3 hl0 hl3 lts hts => ?_⟩
        rw [List.length_map] at lts
        refine ⟨_, rfl, p, k, l, ts, os, rfl, hl3, ⟨by rw [lts, idxd_len], fun i t qq h1 h2 => ?_⟩, hl, by omega, hk, fun x lt H4 b w s4 hN hlt st => ?_⟩
        · have li : i < os.length := by rw [← idxd_len os]; exact (List.getElem?_eq_some_iff.mp h2).1
          rw [idxd_at li] at h2
          cases h2
          exact hts i t _ h1 (by rw [List.getElem?_map, List.getD_eq_getElem?_getD, List.getElem?_eq_getElem li]; rfl)
        · exact q x lt H4 b w (s1.trans (sm.trans (s3.trans s4))) hN hlt st

/-! ### defs told for callers around whom nothing is being shown by repr -/
def FnG (P : Program) (w : World) (K : PySem.W.Frag) (mg : Str → Option Value) (base : Heap) (CX : CXT) (k : Nat) (f : Addr) (sp : Sp) : Prop :=
  ∀ (A : Around) (outer : List Env) (s : Shared) (H : Hp) (us : List Value) (vs : List V) (Q : VK) (E : XK), A.guards = some [] → Room k A → Env0 P w K mg base A outer s H → Vals vs us → sp vs H Q E →
    codeAny (model P w) A (.call (.ref f) { pos := us, kw := [] }) (CR CX outer P w H s Q E) s
theorem FnG.of {P : Program} {w : World} {K : PySem.W.Frag} {mg : Str → Option Value} {base : Heap} {CX : CXT} {k : Nat} {f : Addr} {sp : Sp} (F : FnR P w K mg base CX k f sp) : FnG P w K mg base CX k f sp :=
  fun A o s H us vs Q E _ hr => F A o s H us vs Q E hr
theorem FnG.mk {P : Program} {w : World} {K : PySem.W.Frag} {mg : Str → Option Value} {base : Heap} {CX : CXT} {k : Nat} {x qual : Str} {st : Stmt} {f : Addr} {fd : FuncData} {N ps : List Str} {sp : Sp}
    (F : Fun K x qual st f fd) (S : FnScope N ps (defScope st)) (B : Binds K fd ps []) (len : ∀ vs H Q E, sp vs H Q E → vs.length = ps.length)
    (go : ∀ (cdv : Value) (A : Around) (outer : List Env) (s : Shared) (H : Hp) (vs : List V) (Q : VK) (E : XK), (A.deeper (envOfC qual (defScope st) s.heap.objs.size f cdv)).guards = some [] → Room k (A.deeper (envOfC qual (defScope st) s.heap.objs.size f cdv)) → sp vs H Q E →
      ∃ t, PSs (cxOf CX P w K mg base N qual (defScope st) f cdv A outer s H E) (defBody st) t ∧ t { nx := fun _ H1 => Q .non H1, rt := Q } (start N vs) H) : FnG P w K mg base CX (k + 1) f sp := by
  obtain ⟨oc, od, kV, doc, pm, an, cdv, ct, osl, e, lk, hcd⟩ := F.ex
  subst e
  intro A outer s H us vs Q E hg hr e0 rv hs
  have hl := len _ _ _ _ hs
  have hu : (us ++ []).length = ps.length := by rw [List.append_nil, ← hl]; exact rv.length.symm
  have b := B s us (e0.mod.kin.keeps fun b o z => (e0.bs b o z).1) hu
  rw [List.append_nil] at b
  exact LamX.run_ofS lk hcd S hr e0 b rv hl fun hr1 => go cdv A outer s H vs Q E hg hr1 hs
theorem FnG.mk0 {P : Program} {w : World} {K : PySem.W.Frag} {mg : Str → Option Value} {base : Heap} {k : Nat} {x qual : Str} {st : Stmt} {f : Addr} {fd : FuncData} {N ps : List Str} {sp : Sp}
    (F : Fun K x qual st f fd) (S : FnScope N ps (defScope st)) (B : Binds K fd ps []) (len : ∀ vs H Q E, sp vs H Q E → vs.length = ps.length)
    (go : ∀ (cdv : Value) (A : Around) (outer : List Env) (s : Shared) (H : Hp) (vs : List V) (Q : VK) (E : XK), (A.deeper (envOfC qual (defScope st) s.heap.objs.size f cdv)).guards = some [] → Room k (A.deeper (envOfC qual (defScope st) s.heap.objs.size f cdv)) → sp vs H Q E →
      ∃ t, PSs (cxOf CX0 P w K mg base N qual (defScope st) f cdv A outer s H E).nox (defBody st) t ∧ t { nx := fun _ H1 => Q .non H1, rt := Q } (start N vs) H) : FnG P w K mg base CX0 (k + 1) f sp :=
  FnG.mk F S B len fun cdv A outer s H vs Q E hg hr hs => by
    obtain ⟨t, ht, q⟩ := go cdv A outer s H vs Q E hg hr hs
    exact ⟨t, ht.nox, q⟩
/-- .. of a def whose code object is known -/
theorem FnG.mkL {P : Program} {w : World} {K : PySem.W.Frag} {mg : Str → Option Value} {base : Heap} {k : Nat} {x qual : Str} {st : Stmt} {f c : Addr} {N ps : List Str} {sp : Sp} {oc : Value} {od an : Option Addr} {osl : Array (Option Value)} {kV doc pm ct : Value}
    (lk : K.lookup f = some ⟨oc, od, .func (PySem.W.fnOf x qual (defArgs st) (defBody st) (defScope st) .none kV doc pm an (.ref c) ct), osl⟩) (hcd : PySem.W.codeIn K (.ref c) qual = true) (S : FnScope N ps (defScope st))
    (B : Binds K (PySem.W.fnOf x qual (defArgs st) (defBody st) (defScope st) .none kV doc pm an (.ref c) ct) ps []) (len : ∀ vs H Q E, sp vs H Q E → vs.length = ps.length)
    (go : ∀ (A : Around) (outer : List Env) (s : Shared) (H : Hp) (vs : List V) (Q : VK) (E : XK), (A.deeper (envOfC qual (defScope st) s.heap.objs.size f (.ref c))).guards = some [] → Room k (A.deeper (envOfC qual (defScope st) s.heap.objs.size f (.ref c))) → sp vs H Q E →
      ∃ t, PSs (cxOf CX0 P w K mg base N qual (defScope st) f (.ref c) A outer s H E).nox (defBody st) t ∧ t { nx := fun _ H1 => Q .non H1, rt := Q } (start N vs) H) : FnG P w K mg base CX0 (k + 1) f sp := by
  intro A outer s H us vs Q E hg hr e0 rv hs
  have hl := len _ _ _ _ hs
  have hu : (us ++ []).length = ps.length := by rw [List.append_nil, ← hl]; exact rv.length.symm
  have b := B s us (e0.mod.kin.keeps fun b o z => (e0.bs b o z).1) hu
  rw [List.append_nil] at b
  exact LamX.run_ofS lk hcd S hr e0 b rv hl fun hr1 => by
    obtain ⟨t, ht, q⟩ := go A outer s H vs Q E hg hr1 hs
    exact ⟨t, ht.nox, q⟩
/-- x(e, ..), x such a def -/
theorem pe_callG {X : Cx} {CX : CXT} {k : Nat} {f : Addr} {sp : Sp} {E : XK} {x : Str} {e : Expr} {es : List Expr} {t : TA} {p pos : Pos} (gu : X.A.guards = some []) (F : FnG X.prog X.w X.K X.mg X.base CX k f sp) (hr : Room k X.A) (hk : PySem.W.keepIn X.K (.ref f) = true) (hg : Gl X x) (hm : X.mg x = some (.ref f)) (hx : Passes CX X E)
    (ha : PA X (e :: es) t) (hd : (x == ("__debug__" : Str)) = false := by decide) (he : starEach (e :: es) X.env = (false, eval e X.env) :: starEach es X.env := by rfl) (hpl : (backTo pos (starEach es X.env)).any (·.1) = false := by rfl) :
    PE X (.Call (.Name x p) (e :: es) [] pos) (fun σ H Q => t σ H fun vs H1 => sp vs H1 Q E) := by
  refine ⟨fun pins s σ H Q I h => wpAny_Call_Name_kw (ld_glob I hg hm ?_ hd)⟩
  refine PySem.W.callWith_K (h₀ := X.base) I.ok.mod.kin hk (thn (ha.run pos pins s σ H _ I h) fun us s1 ⟨vs, H1, I1, r, q⟩ => ⟨I1.kIn, wpAny_call ?_⟩) he hpl
  refine codeAny_mono (F X.A X.stack s1 H1 us vs Q E gu hr I1.env0 r q) fun z s2 hz => ?_
  match z, hz with
  | .error er, hz => exact hx pins σ H1 s1 er s2 I1 hz
  | .ok (.ret u), hz => exact I1.after hz
/-! ### the law's entry, with tables of code objects and nothing being shown -/
section
variable {P : Program} {w : World} {K : PySem.W.Frag} {mg mb : Str → Option Value} {a : Addr} {cs : List (Addr × Addr)} {s : Shared} {vs : List Value} {ns : List Int}
open Classical in
/-- what is tracked at the entry: the script, if it is none of the written things, and the tables -/
noncomputable def H1st (K : PySem.W.Frag) (a : Addr) (cs : List (Addr × Addr)) (vs : List Value) (ns : List Int) : Hp := fun b =>
  if b = a ∧ K.lookup a = Option.none then some (.frz ({ cls := .type "list", data := .seq vs.toArray } : Obj) (.lst (ns.map V.int))) else if ∃ p ∈ cs, p.2 = b then some (.tbl #[]) else Option.none
theorem entry (KX : K.In s.heap) (G : s.heap.Ns mainGlobals mg) (Gb : s.heap.Ns builtinsNs mb) (bb : ∀ x : Str, x ≠ "__name__" → mb x = bootBuiltins x) (nl : s.heap.NoLimit) (ng : s.gens = #[])
    (tb : ∀ p ∈ cs, s.heap.get? p.2 = some ({ cls := .none, data := .fields #[] } : Obj)) (tk : ∀ p ∈ cs, K.lookup p.2 = Option.none) (ch : ∀ p ∈ cs, PySem.W.CodeHd s.heap p.1 p.2)
    (bm : ∃ (m : Addr) (o : Obj), mg "__builtins__" = some (.ref m) ∧ m ≠ builtinsNs ∧ s.heap.get? m = some o ∧ o.cls = .type "module" ∧ o.dict = some builtinsNs ∧ o.data = .plain)
    (sc : s.heap.get? a = some ({ cls := .type "list", data := .seq vs.toArray } : Obj)) (iv : IntsAre vs ns) (len : ns.length ≤ sizeLine) :
    ∃ (H : Hp) (base : Heap), K.In base ∧ base.Ns mainGlobals mg ∧ (∀ p ∈ cs, LamX.TabB base mg p.1 p.2) ∧ Env0 P w K mg base callerA [] s H ∧ (∀ p ∈ cs, H p.2 = some (.tbl #[])) ∧ SqL K H a (ns.map V.int) ∧
      ∀ b, H b = Option.none ∨ (∃ p ∈ cs, p.2 = b) ∨ ∃ o xs, H b = some (.frz o (.lst xs)) := by
  have rv := vals_ints iv
  have nt : ¬ ∃ p ∈ cs, p.2 = a := fun ⟨p, hp, e⟩ => by
    have z := tb p hp
    rw [e, sc] at z
    exact nomatch congrArg Obj.data (Option.some.inj z)
  -- what is tracked
  have tr : ∀ b u, H1st K a cs vs ns b = some u → (b = a ∧ K.lookup a = Option.none ∧ u = .frz ({ cls := .type "list", data := .seq vs.toArray } : Obj) (.lst (ns.map V.int))) ∨ ((∃ p ∈ cs, p.2 = b) ∧ u = .tbl #[]) := fun b u h => by
    unfold H1st at h
    split at h
    · rename_i c; exact .inl ⟨c.1, c.2, (Option.some.inj h).symm⟩
    · split at h
      · rename_i c; exact .inr ⟨c, (Option.some.inj h).symm⟩
      · cases h
  have tt : ∀ p ∈ cs, H1st K a cs vs ns p.2 = some (.tbl #[]) := fun p hp => by
    unfold H1st
    rw [if_neg (fun z : p.2 = a ∧ _ => nt ⟨p, hp, z.1⟩), if_pos ⟨p, hp, rfl⟩]
  have un : ∀ b o, s.heap.get? b = some o → (∀ v n, o.data ≠ .seq v n) → o.data ≠ .fields #[] → H1st K a cs vs ns b = Option.none := fun b o e n1 n2 => by
    match q : H1st K a cs vs ns b with
    | Option.none => rfl
    | some u =>
      exfalso
      rcases tr b u q with ⟨z, _, _⟩ | ⟨⟨p, hp, z⟩, _⟩
      · rw [z, sc] at e; cases e; exact n1 _ _ rfl
      · rw [← z, tb p hp] at e; cases e; exact n2 rfl
  have keep : ∀ {b : Addr} {o : Obj}, s.heap.get? b = some o → (∀ v n, o.data ≠ .seq v n) → o.data ≠ .fields #[] → (hidT s.heap (H1st K a cs vs ns)).get? b = some o := fun e n1 n2 => hidT_get e (un _ _ e n1 n2)
  have nsOf : ∀ {b : Addr} {m : Str → Option Value}, s.heap.Ns b m → (hidT s.heap (H1st K a cs vs ns)).Ns b m := fun {b m} ⟨o, es, ep, e, d, r⟩ => ⟨o, es, ep, keep e (fun v n z => by rw [d] at z; cases z) (fun z => by rw [d] at z; cases z), d, r⟩
  have kin : K.In (hidT s.heap (H1st K a cs vs ns)) := fun b o e => hidT_get (KX b o e) (by
    match q : H1st K a cs vs ns b with
    | Option.none => rfl
    | some u =>
      exfalso
      rcases tr b u q with ⟨z, z2, _⟩ | ⟨⟨p, hp, z⟩, _⟩
      · rw [z, z2] at e; cases e
      · rw [← z, tk p hp] at e; cases e)
  have md : L2.Mod K mg (hidT s.heap (H1st K a cs vs ns)) := { kin := kin, glob := nsOf G, blt := ⟨mb, nsOf Gb, bb⟩, nolimit := by obtain ⟨mc, q1, q2⟩ := nl; exact ⟨mc, nsOf q1, q2⟩ }
  have gl : ∀ p ∈ cs, mainGlobals ≠ p.2 := fun p hp z => by
    obtain ⟨o, es, ep, e, d, _⟩ := G
    rw [z, tb p hp] at e
    cases e
    cases d
  refine ⟨H1st K a cs vs ns, hidT s.heap (H1st K a cs vs ns), kin, nsOf G, fun p hp => ⟨?_, ?_, gl p hp⟩, ⟨rfl, md, fun b o e => of_hidT e, Nat.le_of_eq (hidT_size _ _), trivial, fun b hb => (List.not_mem_nil hb).elim, fun b u q => ?_, .of_eq ng⟩, tt, ?_, fun b => ?_⟩
  · obtain ⟨o, us, file, tf, flags, tg, inF, text, tt, q0, q1, q2, q3, rest⟩ := ch p hp
    refine ⟨o, us, file, tf, flags, tg, inF, text, tt, keep q0 (fun v n z => by rw [q2] at z; cases z) (fun z => ?_), q1, q2, q3, rest⟩
    rw [q2] at z
    cases z
    simp at q3
  · obtain ⟨m, o, b1, b2, b3, b4, b5, b6⟩ := bm
    refine ⟨m, o, b1, b2, fun z => ?_, fun z => ?_, keep b3 (fun v n z => by rw [b6] at z; cases z) (fun z => by rw [b6] at z; cases z), b4, b5, b6⟩
    · obtain ⟨o2, es, ep, e, d, _⟩ := G
      rw [z, e] at b3
      cases b3
      rw [d] at b6
      cases b6
    · rw [z, tb p hp] at b3
      cases b3
      cases b6
  · rcases tr b u q with ⟨z, _, z3⟩ | ⟨⟨p, hp, z⟩, z3⟩
    · rw [z, z3]
      exact ⟨sc, by rw [List.length_map]; exact len, vs, _, rv, sc⟩
    · rw [← z, z3]
      exact tb p hp
  · match q : K.lookup a with
    | Option.none => exact .inl (.inr ⟨_, by unfold H1st; rw [if_pos ⟨rfl, q⟩]⟩)
    | some o =>
      have e := KX a o q
      rw [sc] at e
      cases e
      exact .inr ⟨_, vs.toArray, _, q, rfl, rfl, rfl, by rw [List.size_toArray, iv.length]; exact len, by simpa using rv⟩
  · match q : H1st K a cs vs ns b with
    | Option.none => exact .inl rfl
    | some u =>
      rcases tr b u q with ⟨_, _, z3⟩ | ⟨z, _⟩
      · rw [z3]; exact .inr (.inr ⟨_, _, rfl⟩)
      · exact .inr (.inl z)
/-- what stood before the law stands behind it -/
theorem leave {H H2 : Hp} {s2 : Shared} (tb : ∀ p ∈ cs, s.heap.get? p.2 = some ({ cls := .none, data := .fields #[] } : Obj)) (ch : ∀ p ∈ cs, PySem.W.CodeHd s.heap p.1 p.2) (tt : ∀ p ∈ cs, H p.2 = some (.tbl #[]))
    (only : ∀ b, H b = Option.none ∨ (∃ p ∈ cs, p.2 = b) ∨ ∃ o xs, H b = some (.frz o (.lst xs))) (h1 : HOk P w H s.heap) (u : Un (frs []) [] H H2 s.heap s2.heap) (h2 : HOk P w H2 s2.heap) : OldK s.heap s2.heap := by
  have same : ∀ b o, ¬ (∃ p ∈ cs, p.2 = b) → s.heap.get? b = some o → s2.heap.get? b = some o := fun b o n e => by
    rcases only b with z | z | ⟨ob, xs, z⟩
    · exact u.keep b o e z List.not_mem_nil List.not_mem_nil
    · exact (n z).elim
    · have q1 := (h1 b _ z).1
      have q2 := (h2 b _ (u.frzs b ob _ z)).1
      rw [e] at q1
      rw [q2, Option.some.inj q1]
  have more : ∀ p ∈ cs, ∃ ps : Array Value, s2.heap.get? p.2 = some ({ cls := .none, data := .fields ps } : Obj) := fun p hp => by
    obtain ⟨ps, z⟩ := u.tbls p.2 #[] (tt p hp)
    exact ⟨_, h2 p.2 _ z⟩
  refine ⟨fun b o e => ?_, fun b o e => ?_⟩
  all_goals by_cases hb : ∃ p ∈ cs, p.2 = b
  · obtain ⟨p, hp, rfl⟩ := hb
    obtain ⟨ps, z⟩ := more p hp
    have e2 := e
    rw [tb p hp] at e2
    cases e2
    exact .inr (.inl ⟨((ch p hp).tab (tb p hp)).isCodeTable, rfl, #[], ps, rfl, by rw [Array.empty_append]; exact z⟩)
  · exact .inl (same b o hb e)
  · obtain ⟨p, hp, rfl⟩ := hb
    exact ⟨_, (more p hp).choose_spec⟩
  · exact ⟨o, same b o hb e⟩
end
/-- what is shown of the law behind the head: its promise, and the tables that it leans on -/
def LawG (l : PySem.W.OpenLaw) (w : World) (K : PySem.W.Frag) (k : Nat) (mg : Str → Option Value) (fa : Addr) (h : Heap) : Prop :=
  ∃ (cs : List (Addr × Addr)) (sp : Sp), (∀ p ∈ cs, h.get? p.2 = some ({ cls := .none, data := .fields #[] } : Obj)) ∧ (∀ p ∈ cs, K.lookup p.2 = Option.none) ∧ (∀ p ∈ cs, PySem.W.CodeHd h p.1 p.2) ∧
    (∀ (H : Hp) (a : Addr) (ns : List Int), ns.length ≤ 63 → (∀ z ∈ ns, Builtin.Int.intBits z ≤ 1048576) → (∀ p ∈ cs, H p.2 = some (.tbl #[])) → SqL K H a (ns.map V.int) → sp [.ref a] H (fun v _ => v = .bl true) fun _ _ _ => False) ∧
    ∀ base : Heap, K.In base → base.Ns mainGlobals mg → (∀ p ∈ cs, LamX.TabB base mg p.1 p.2) → FnG l.prog w K mg base CX0 k fa sp
/-- the table of the def x is empty behind the top -/
def TabOf (K : PySem.W.Frag) (mg : Str → Option Value) (h : Heap) (x : Str) : Prop := ∀ (f c P : Addr) (o : Obj) (fd : FuncData) (e : Value) (dd : Option Addr) (vs : Array Value) (sl : Array (Option Value)), mg x = some (.ref f) → K.lookup f = some o → o.data = .func fd → fd.code = .ref c →
  K.lookup c = some ⟨e, dd, .fields vs, sl⟩ → vs[11]? = some (.ref P) → h.get? P = some ({ cls := .none, data := .fields #[] } : Obj) ∧ PySem.W.CodeHd h c P
theorem walkG {l : PySem.W.OpenLaw} {k : Nat} {q : Program} {loose : List Str} {XP : (Str → Option Value) → Heap → Prop} {YP : World → Heap → Prop} {d : DefRec} {K : Params → PySem.W.Frag} (xs : List Str) (hxs : (xs.all fun x => (recsOf q).any fun e => e.name == x) = true)
    (hn : l.most = some 63) (hdf : d.params.defaults = []) (hr : Room k callerA) (hY : ∀ (w : World) (h : Heap), YP w h → (K w.params).In h)
    (F : ∀ (w : World) (mg : Str → Option Value) (fa : Addr) (h : Heap), (K w.params).In h → h.Ns mainGlobals mg → mg d.name = some (.ref fa) → (∀ x ∈ xs, TabOf (K w.params) mg h x) → LawG l w (K w.params) k mg fa h) :
    PySem.W.WalkO q loose XP YP l.row.toRowW d [] (fun f vs => PySem.call f vs) := by
  refine Att.attach_callB hn hdf fun w s₀ s mg mb fa o pm cd doc a vs ns G Y _ _ _ hmg hobj hints hlen hbits hg => ?_
  have KX := hY w _ Y
  have tabs : ∀ x ∈ xs, TabOf (K w.params) mg s.heap x := fun x hx f c P o fd e dd us sl m1 m2 m3 m4 m5 m6 => by
    obtain ⟨r, hr1, hr2⟩ := List.any_eq_true.mp (List.all_eq_true.mp hxs x hx)
    obtain ⟨f2, o2, fd2, c2, P2, t1, t2, t3, t4, t5, t6⟩ := G.T.tab r hr1
    rw [beq_iff_eq.mp hr2, m1] at t1
    cases t1
    rw [KX _ _ m2] at t2
    cases t2
    rw [m3] at t3
    cases t3
    rw [m4] at t4
    cases t4
    have hd := PySem.W.CodeHd.of t5 t6
    obtain ⟨⟨oc, vc, u1, _, u3, u4⟩, hP⟩ := t6
    rw [KX _ _ m5] at u1
    cases u1
    cases u3
    rw [m6] at u4
    cases u4
    exact ⟨hP, hd⟩
  obtain ⟨cs, sp, tb, tk, ch, hsp, FG⟩ := F w mg fa _ KX G.T.g hmg tabs
  obtain ⟨H, base, kin, ns1, TB, e0, tt, hS, only⟩ := entry (P := l.prog) (w := w) KX G.T.g G.T.b G.T.builtins G.T.nolimit hg tb tk ch G.T.bmain hobj hints (Nat.le_trans hlen (by decide))
  refine codeAny_mono (FG base kin ns1 TB callerA [] s H [.ref a] [.ref a] _ _ rfl hr e0 (.cons rfl .nil) (hsp H a ns hlen hbits tt hS)) fun r s2 h => ?_
  match r, h with
  | .ok (.ret u), ⟨v, H2, os, bare, un, hok, rel, e⟩ =>
    have e' : v = .bl true := e
    subst e'
    have eu : u = Value.bool true := rel
    subst eu
    exact ⟨rfl, leave tb ch tt only e0.hok un hok, os, bare⟩

/-! ### repr -/
/-- v is read as the datum d: as Dp, and dicts of no entry or one -/
inductive Dq (K : PySem.W.Frag) (H : Hp) : V → PyData → Prop where
  | dp {v : V} {d : PyData} : Dp K H v d → Dq K H v d
  | d0 {a : Addr} : H a = some (.dK []) → Dq K H (.ref a) (.dict [])
mutual
theorem dp_nodict {K : PySem.W.Frag} {H : Hp} : ∀ (d : PyData) (v : V), Dp K H v d → d.hasDict = false
  | .none, _, _ => rfl
  | .bool _, _, _ => rfl
  | .int _, _, _ => rfl
  | .str _, _, _ => rfl
  | .list ds, _, h => by
    cases h with
    | lst _ ha => exact dp_nodictAll ds _ ha
  | .tuple ds, _, h => by
    cases h with
    | tup _ ha => exact dp_nodictAll ds _ ha
  | .dict _, _, h => by cases h
theorem dp_nodictAll {K : PySem.W.Frag} {H : Hp} : ∀ (ds : List PyData) (vs : List V), DpAll K H vs ds → PyData.hasDictAll ds = false
  | [], _, _ => rfl
  | d :: ds, _, h => by
    cases h with
    | cons h1 h2 =>
      show (PyData.hasDict d || PyData.hasDictAll ds) = false
      rw [dp_nodict d _ h1, dp_nodictAll ds _ h2]
      rfl
end
theorem Dq.reads {X : Cx} {pins : List (Addr × Obj)} {σ : L2.St} {H : Hp} {s : Shared} (I : Inv X pins σ H s) {v : V} {d : PyData} {u : Value} (h : Dq X.K H v d) (r : RelV v u) : ∃ as, Reads s.heap u d as ∧ (d.hasDict = true → sysModules ∉ as) := by
  cases h with
  | dp h =>
    obtain ⟨as, q⟩ := Dp.reads I _ _ _ h r
    exact ⟨as, q, fun z => by rw [dp_nodict _ _ h] at z; cases z⟩
  | @d0 a h =>
    obtain rfl : u = Value.ref a := r
    obtain ⟨_, ns, vs, kv, o, es, ep, e1, e2, e3, e4⟩ := (show ObjOk X.prog X.w H s.heap a (.dK []) from I.hok a _ h)
    cases kv
    have e5 : es.toList = [] := by
      have e6 := e4.2.1
      generalize es.toList = l at e6
      cases e6
      rfl
    refine ⟨[a] ++ [] ++ [], Reads.dict e1 e2.1 e3 (by rw [e5]; exact .nil) (by rw [e5]; exact .nil), fun _ z => ?_⟩
    have z' : sysModules = a := by simpa using z
    rw [← z'] at ns
    simp at ns
def rRep (K : PySem.W.Frag) : List V → Hp → VK → Prop := fun vs H Q => ∃ v d, vs = [v] ∧ Dq K H v d ∧ d.showable = true ∧ d.depth ≤ 60 ∧ ((∃ i, d = .int i) ∨ d.shown.length ≤ sizeLine) ∧ Q (.str d.shown) H
theorem call_rep {X : Cx} (gu : X.A.guards = some []) (hu : X.A.units + 64 < cLine) : CallR X (.builtin "repr") (rRep X.K) := by
  intro pins s σ H xs us Q I r h
  obtain ⟨v, d, rfl, hd, h1, h2, h3, q⟩ := h
  obtain ⟨u, rfl, ru⟩ := vals1 r
  obtain ⟨as, rd, ns⟩ := hd.reads I ru
  have done : ∀ (h' : Heap) (t : Tok) (tk : Nat), (∀ b o, s.heap.get? b = some o → h'.get? b = some o) → EP X pins σ Q (.str d.shown t) { s with heap := h', toks := tk } := fun h' t tk k => ⟨.str d.shown, H, I.kept (t' := tk) k, ⟨t, rfl⟩, q⟩
  have same : ∀ t tk, EP X pins σ Q (.str d.shown t) { s with toks := tk } := fun t tk => done s.heap t tk fun _ _ z => z
  have h3 : (∀ i, d ≠ .int i) → d.shown.length ≤ sizeLine := fun n => h3.resolve_left fun ⟨i, z⟩ => n i z
  cases rd with
  | none => exact PySem.P.repr_of_none (same _ _)
  | bool b => exact PySem.P.repr_of_bool (same _ _)
  | int i t => exact PySem.P.repr_of_int (of_decide_eq_true h1) (same _ _)
  | str x t => exact PySem.P.repr_of_str (same _ _) (h3 fun _ z => nomatch z)
  | list e1 e2 e3 e4 => exact PySem.repr_of_reads' (.list e1 e2 e3 e4) h1 ns gu (by omega) (fun _ _ z => z) (fun h' u tk k => done h' u tk k) (h3 fun _ z => nomatch z)
  | tuple e1 e2 e3 e4 => exact PySem.repr_of_reads' (.tuple e1 e2 e3 e4) h1 ns gu (by omega) (fun _ _ z => z) (fun h' u tk k => done h' u tk k) (h3 fun _ z => nomatch z)
  | dict e1 e2 e3 e4 e5 => exact PySem.repr_of_reads' (.dict e1 e2 e3 e4 e5) h1 ns gu (by omega) (fun _ _ z => z) (fun h' u tk k => done h' u tk k) (h3 fun _ z => nomatch z)

/-! ### calls by keywords alone, and by a variable that holds a def -/
/-- x(k = v, ..) -/
theorem pe_callK0 {X : Cx} {CX : CXT} {k : Nat} {f : Addr} {fd : FuncData} {ps ks : List Str} {sp : Sp} {E : XK} {x : Str} {kws : List Keyword} {tk : TA} {g : List Value → List Value → List Value} {gV : List V → List V → List V} {p pos : Pos}
    (F : FnOk X.prog X.w X.K X.mg X.base CX k f fd ps sp) (hr : Room k X.A) (hg : Gl X x) (hm : X.mg x = some (.ref f)) (hk : PySem.W.keepIn X.K (.ref f) = true) (hb : KBinds X.K fd ps ks g gV) (hx : Passes CX X E)
    (hkw : PK X kws tk) (hall : (backToKw pos (keywordEach kws X.env)).all (·.1.isSome) = true := by rfl) (hks : (backToKw pos (keywordEach kws X.env)).filterMap (·.1) = ks := by rfl)
    (hdb : (x == ("__debug__" : Str)) = false := by decide) (hpl : ((backTo pos (starEach [] X.env)).any (·.1) || (backToKw pos (keywordEach kws X.env)).any (·.1.isNone)) = false := by rfl) :
    PE X (.Call (.Name x p) [] kws pos) (tCallK sp gV E tNil tk) := by
  refine ⟨fun pins s σ H Q I h => ?_⟩
  refine wpAny_Call_Name_kw (ld_glob I hg hm ?_ hdb)
  refine PySem.W.callWith_KW0 (h₀ := X.base) I.ok.mod.kin hk hall ?_ hpl
  refine thn (hkw.run pos pins s σ H _ I h) fun ws s2 ⟨zs, H2, I2, rz, q2⟩ => ⟨I2.kIn, ?_⟩
  rw [hks]
  exact run_fnk (us := []) F hr hb hx I2 .nil rz q2
/-- x(), x a variable that holds the def at f -/
theorem pe_callV0 {X : Cx} {CX : CXT} {k i : Nat} {f : Addr} {sp : Sp} {E : XK} {x : Str} {p pos : Pos} (F : FnR X.prog X.w X.K X.mg X.base CX k f sp) (hr : Room k X.A) (hk : PySem.W.keepIn X.K (.ref f) = true) (hx : Passes CX X E) (hN : X.N[i]? = some x) (hv : Vis X.env.scope x)
    (hd : (x == ("__debug__" : Str)) = false := by decide) (hcd : (x == ("__classdict__" : Str)) = false := by decide) : PE X (.Call (.Name x p) [] [] pos) (fun σ H Q => σ[i]? = some (some (.ref f)) ∧ sp [] H Q E) := by
  refine ⟨fun pins s σ H Q I h => ?_⟩
  obtain ⟨hs, h⟩ := h
  refine wpAny_Call_Name_kw (thn ((pe_var (pos := p) (i := i) hN hv hd hcd).run pins s σ H (fun v H1 => v = .ref f ∧ H1 = H) I ⟨.ref f, hs, rfl, rfl⟩) fun u s1 ⟨v, H1, I1, r1, ev, eH⟩ => ?_)
  subst ev
  rw [eH] at I1
  cases r1
  exact PySem.W.callWith_K0 I1.kIn hk (wpAny_call (run_fnR (us := []) F hr hx I1 .nil h))

/-- a field, the written part given by hand -/
theorem pe_fldC {X : Cx} {e : Expr} {te : TE} {f : Str} {pos : Pos} (K : PySem.W.Frag) (hK : X.K = K) (he : PE X e te) (hb : attributeBase e f X.env (eval e X.env) = eval e X.env := by rfl) : PE X (.Attribute e f pos) (tFld K te f) := by
  subst hK
  exact pe_fld he hb

/-! ### the draws -/
def spPen (K : PySem.W.Frag) : Sp := fun vs H Q _ => ∃ (a : Addr) (ns : List Int), vs = [.ref a] ∧ SqL K H a (ns.map V.int) ∧ ns.length ≤ 63 ∧ ∀ (p : Addr) (H' : Hp), Same H H' → Pen H' p 0 → Q (.ref p) H'
theorem ok_pen (T : Txt K mg) : FnOk P w K mg base CX0 1 T.a_pen T.fd_pen ["_law_script"] (spPen K) := by
  refine T.F_pen.ok sc_pen (fun vs H Q E h => ?_) (fun cdv A outer s H vs Q E hr h => ?_)
  · obtain ⟨a, ns, rfl, _⟩ := h; rfl
  · obtain ⟨a, ns, rfl, hS, hl, k⟩ := h
    refine ⟨_, pss_one (ps_ret (pe_lst (pa_cons (pe_callTy call_list_of (by rfl) T.n_list (by decide +kernel) (pa_cons (pe_slice sl_list (pv 0) (po_none) (po_some (pe_int))) (pa_nil))) (pa_cons (pe_int) (pa_cons (pe_int) (pa_nil)))))), ?_⟩
    obtain ⟨ms, em, lm⟩ := cut_ints ns none (some 63)
    refine ⟨_, rfl, _, rfl, a, _, rfl, hS, fun q hq => ?_⟩
    refine ⟨q, _, rfl, .inl (SqL.of upd_same), fun l hl => ?_⟩
    refine ⟨(by show 3 ≤ sizeLine; decide), fun p hp => k p _ ?_ ?_⟩
    · exact (same_new hq).trans ((same_new hl).trans (same_new hp))
    · refine ⟨l, ms, 0, 0, upd_same, ?_, by omega, by omega, by omega, by omega⟩
      rw [upd_ne (ne_of_none upd_same hp), upd_same, em]
def spDraw : Sp := fun vs H Q _ => ∃ (p : Addr) (m : Int) (n : Nat), vs = [.ref p, .int m] ∧ 0 < m ∧ m < 1073741824 ∧ Pen H p n ∧ n < 100000 ∧ ∀ (r : Int) (H' : Hp), 0 ≤ r → r < m → Pen H' p (n + 1) → Fr p H H' → Q (.int r) H'
theorem ok_draw (T : Txt K mg) : FnOk P w K mg base CX0 1 T.a_draw T.fd_draw ["_law_pen_here", "_law_many"] spDraw := by
  refine T.F_draw.ok sc_draw (fun vs H Q E h => ?_) (fun cdv A outer s H vs Q E hr h => ?_)
  · obtain ⟨p, m, n, rfl, _⟩ := h; rfl
  · obtain ⟨p, m, n, rfl, hm, hm2, ⟨c, ns, i, g, hp, hc, i0, i1, g0, hl⟩, hn, k⟩ := h
    have cp : c ≠ p := pen_ne hp hc
    have mb : m.natAbs < 2 ^ 30 := by omega
    refine ⟨_, pss_cons (ps_if (pt_cmpR op_gt (pe_ix ix_list (pv 0) (pe_int) (fun _ _ => rfl)) (pe_int) (nomark _)) (pss_cons (ps_set (i := 2) sc_draw.nd rfl (Or.inl rfl) (pe_op op_modN (pe_callTy call_int1 (by rfl) T.n_int (by decide +kernel) (pa_cons (pe_ix ix_list (pv 0) (pe_int) (fun _ _ => rfl)) (pa_nil))) (pv 1)))
      (pss_cons (ps_asg (pe_op op_fdivW (pe_callTy call_int1 (by rfl) T.n_int (by decide +kernel) (pa_cons (pe_ix ix_list (pv 0) (pe_int) (fun _ _ => rfl)) (pa_nil))) (pv 1)) (pg_sub (pv 0) (pe_int) set_list))
      (pss_one (ps_ret (pv 2))))) (pss_nil))
      (pss_cons (ps_set (i := 3) sc_draw.nd rfl (Or.inl rfl) (pe_ix ix_list (pv 0) (pe_int) (fun _ _ => rfl)))
      (pss_cons (ps_asg (pe_op op_add (pv 3) (pe_int)) (pg_sub (pv 0) (pe_int) set_list))
      (pss_cons (ps_set (i := 4) sc_draw.nd rfl (Or.inl rfl) (pe_op op_add (pe_op op_mul (pe_int) (pv 3)) (pe_int)))
      (C8.pss_cut (ps_if (pt_cmpR (op_neD hr.units) (pe_ix ix_list (pv 0) (pe_int) (fun _ _ => rfl)) (pe_lst (pa_nil)) (nomark _)) (pss_one (ps_set (i := 4) sc_draw.nd rfl (Or.inl rfl) (pe_ix ix_list (pe_ix ix_list (pv 0) (pe_int) (fun _ _ => rfl)) (pe_op op_modN (pe_callTy call_int1 (by rfl) T.n_int (by decide +kernel) (pa_cons (pv 3) (pa_nil))) (pe_callB call_len_seq (by rfl) T.n_len (by decide +kernel) (pa_cons (pe_ix ix_list (pv 0) (pe_int) (fun _ _ => rfl)) (pa_nil)))) (fun _ _ => rfl)))) (pss_nil))
      (C8.pss_cut (ps_if (PW.pt (pw_and (pt_cmpR op_lt (pv 3) (pe_callB call_len_seq (by rfl) T.n_len (by decide +kernel) (pa_cons (pe_ix ix_list (pv 0) (pe_int) (fun _ _ => rfl)) (pa_nil))) (nomark _)) (pw_and1 (pt_cmpR op_ge (pe_callB call_abs (by rfl) T.n_abs (by decide +kernel) (pa_cons (pv 4) (pa_nil))) (pe_op op_pow (pe_int) (pe_int)) (nomark _))))) (pss_cons (ps_set (i := 5) sc_draw.nd rfl (Or.inl rfl) (pe_op op_add (pe_op op_mul (pe_int) (pe_op op_sub (pe_callB call_abs (by rfl) T.n_abs (by decide +kernel) (pa_cons (pv 4) (pa_nil))) (pe_op op_pow (pe_int) (pe_int)))) (pe_callTy call_int1 (by rfl) T.n_int (by decide +kernel) (pa_cons (pe_cmpR op_lt (pv 4) (pe_int) (nomark _)) (pa_nil)))))
      (pss_cons (ps_asg (pe_op op_fdivW (pe_callTy call_int1 (by rfl) T.n_int (by decide +kernel) (pa_cons (pv 5) (pa_nil))) (pv 1)) (pg_sub (pv 0) (pe_int) set_list))
      (pss_one (ps_ret (pe_op op_modN (pe_callTy call_int1 (by rfl) T.n_int (by decide +kernel) (pa_cons (pv 5) (pa_nil))) (pv 1)))))) (pss_nil))
      (pss_cons (ps_set (i := 6) sc_draw.nd rfl (Or.inl rfl) (pe_op op_modN (pe_callTy call_int1 (by rfl) T.n_int (by decide +kernel) (pa_cons (pe_op op_pow (pe_op op_add (pe_op op_add (pe_op op_modN (pe_callTy call_int1 (by rfl) T.n_int (by decide +kernel) (pa_cons (pv 4) (pa_nil))) (pe_int)) (pe_op op_mul (pe_int) (pv 3))) (pe_int)) (pe_int)) (pa_nil))) (pe_int)))
      (pss_cons (ps_set (i := 6) sc_draw.nd rfl (Or.inl rfl) (pe_op op_modN (pe_callTy call_int1 (by rfl) T.n_int (by decide +kernel) (pa_cons (pe_op op_pow (pe_op op_add (pe_op op_add (pe_op op_mul (pv 6) (pe_op op_add (pe_op op_mul (pe_int) (pv 3)) (pe_int))) (pe_op op_mul (pe_op op_mul (pe_int) (pv 3)) (pv 3))) (pe_int)) (pe_int)) (pa_nil))) (pe_int)))
      (pss_one (ps_ret (pe_op op_modN (pe_callTy call_int1 (by rfl) T.n_int (by decide +kernel) (pa_cons (pe_op op_fdivW (pv 6) (pe_int)) (pa_nil))) (pv 1))))))))))), ?_⟩
    refine ⟨_, rfl, p, _, _, _, rfl, rfl, SqL.of hp, rfl, _, _, rfl, rfl, _, rfl, ?_⟩
    refine ite2 (fun hg => ?_) (fun hg => ?_)
    · refine ⟨_, rfl, p, _, _, _, rfl, rfl, SqL.of hp, rfl, .inl ⟨_, rfl, ?_⟩⟩
      refine ⟨_, rfl, _, _, rfl, rfl, (by omega), ?_⟩
      refine ⟨_, rfl, p, _, _, _, rfl, rfl, SqL.of hp, rfl, .inl ⟨_, rfl, ?_⟩⟩
      refine ⟨_, rfl, _, _, rfl, rfl, wide_div hm mb (by decide) (by decide), ?_⟩
      refine ⟨_, rfl, p, _, _, _, rfl, rfl, hp, rfl, _, rfl, ?_⟩
      have fm := fmod_pos (x := g) hm
      refine k _ _ fm.1 fm.2 ⟨c, ns, i, g / m, upd_same, ?_, i0, by omega, Int.ediv_nonneg g0 (by omega), hl⟩ (fr_upd hp)
      rw [upd_ne cp]; exact hc
    · refine ⟨_, rfl, p, _, _, _, rfl, rfl, SqL.of hp, rfl, ?_⟩
      refine ⟨_, rfl, _, _, rfl, rfl, _, rfl, p, _, _, _, rfl, rfl, hp, rfl, ?_⟩
      -- the index is one more
      have f1 : Fr p H (upd H p (.lst [.ref c, .int (i + 1), .int g])) := fr_upd hp
      have hp1 : (upd H p (.lst [.ref c, .int (i + 1), .int g])) p = some (.lst [.ref c, .int (i + 1), .int g]) := upd_same
      have hc1 : (upd H p (.lst [.ref c, .int (i + 1), .int g])) c = some (.lst (ns.map V.int)) := by rw [upd_ne cp]; exact hc
      show _
      refine ⟨_, rfl, _, _, rfl, rfl, .inl ⟨by decide, by decide⟩, _, _, rfl, rfl, ?_⟩
      refine ⟨fun σ' H' => ∃ raw : Int, σ' = [some (.ref p), some (.int m), Option.none, some (.int i), some (.int raw), Option.none, Option.none] ∧ Same (upd H p (.lst [.ref c, .int (i + 1), .int g])) H', ?_, ?_⟩
      · refine ⟨_, rfl, p, _, _, _, rfl, rfl, SqL.of hp1, rfl, Nat.zero_le _, fun l hl0 => ?_⟩
        refine ⟨.list (ns.map PyData.int), .list [], .lst (SqL.of (same_new hl0 _ _ hc1)) (dp_ints ns), .lst (SqL.of upd_same) .nil, PySem.W.ke_shaped_ints ns, by decide +kernel, _, rfl, ?_⟩
        have s1 := same_new (o := .lst []) hl0
        cases ns with
        | nil => exact iteF ⟨_, rfl, s1⟩
        | cons z r =>
          refine iteT ?_
          refine ⟨_, rfl, p, _, _, _, rfl, rfl, SqL.of (s1 _ _ hp1), rfl, ?_⟩
          refine ⟨_, rfl, .inl ⟨_, rfl, ?_⟩⟩
          refine ⟨_, rfl, p, _, _, _, rfl, rfl, SqL.of (s1 _ _ hp1), rfl, c, _, rfl, .inl (SqL.of (s1 _ _ hc1)), _, _, rfl, rfl, ?_⟩
          have lp : (0 : Int) < (((z :: r).map V.int).length : Nat) := by rw [List.length_map, List.length_cons]; omega
          have fm := fmod_pos (x := i) lp
          have fm2 : i.fmod (((z :: r).map V.int).length : Nat) < (((z :: r).length : Nat) : Int) := by have := fm.2; rw [List.length_map] at this; rw [List.length_map]; exact this
          obtain ⟨y, hy⟩ := atI_in fm.1 fm2
          exact ⟨by omega, c, _, _, _, rfl, rfl, SqL.of (s1 _ _ hc1), hy, y, rfl, s1⟩
      · rintro σ' H' ⟨raw, rfl, s1⟩
        have hp2 := s1 _ _ hp1
        have hc2 := s1 _ _ hc1
        have f2 : Fr p H H' := f1.trans (same_fr s1)
        have penE : ∀ g' : Int, 0 ≤ g' → Pen (upd H' p (.lst [.ref c, .int (i + 1), .int g'])) p (n + 1) := fun g' h' => ⟨c, ns, i + 1, g', upd_same, by rw [upd_ne cp]; exact hc2, by omega, by omega, h', hl⟩
        refine ⟨fun σ'' H'' => σ'' = [some (.ref p), some (.int m), Option.none, some (.int i), some (.int raw), Option.none, Option.none] ∧ H'' = H', ?_, ?_⟩
        rotate_left
        · rintro σ'' H'' ⟨rfl, rfl⟩
          refine ⟨_, rfl, .inl ⟨_, rfl, ?_⟩⟩
          refine ⟨_, _, rfl, rfl, (by show (_ : Int) ≠ 0; decide), _, rfl, _, _, rfl, rfl, .inl ⟨by decide, by decide⟩, _, _, rfl, rfl, _, _, rfl, rfl, ?_⟩
          have r1 := fmod_pos (x := raw) (m := 2147483563) (by decide)
          refine ⟨_, _, rfl, rfl, ⟨by decide, by decide, stir1 r1.1 (by omega) i0 (by omega) (by decide) (by decide) (by decide) (by decide)⟩, .inl ⟨_, rfl, ?_⟩⟩
          refine ⟨_, _, rfl, rfl, (by show (_ : Int) ≠ 0; decide), ?_⟩
          have r2 : ∀ x : Int, 0 ≤ x.fmod 2147483587 ∧ x.fmod 2147483587 < 2147483587 := fun x => fmod_pos (by decide)
          refine ⟨_, rfl, _, rfl, _, _, rfl, rfl, .inl ⟨by decide, by decide⟩, _, _, rfl, rfl, _, _, rfl, rfl, .inl (small64 (r2 _).1 (Int.lt_trans (r2 _).2 (by decide))), ?_⟩
          refine ⟨_, rfl, _, _, rfl, rfl, .inl ⟨by decide, by decide⟩, _, rfl, _, _, rfl, rfl, .inr ⟨by omega, by omega⟩, _, _, rfl, rfl, _, _, rfl, rfl, ?_⟩
          refine ⟨_, _, rfl, rfl, ⟨by decide, by decide, stir2 (r2 _).1 (Int.lt_trans (r2 _).2 (by decide)) i0 (by omega) (by decide) (by decide) (by decide) (by decide) (by decide) (by decide)⟩, .inl ⟨_, rfl, ?_⟩⟩
          refine ⟨_, _, rfl, rfl, (by show (_ : Int) ≠ 0; decide), ?_⟩
          refine ⟨_, rfl, _, _, rfl, rfl, wide_div (b := 10) (by decide) (by decide) (by decide) (by decide), .inl ⟨_, rfl, ?_⟩⟩
          refine ⟨_, rfl, _, _, rfl, rfl, (by omega), ?_⟩
          have fm := fun x => fmod_pos (x := x) hm
          exact k _ _ (fm _).1 (fm _).2 ⟨c, ns, i + 1, g, hp2, hc2, by omega, by omega, g0, hl⟩ f2
        refine ⟨_, rfl, _, rfl, p, _, _, _, rfl, rfl, SqL.of hp2, rfl, c, _, rfl, .inl (SqL.of hc2), _, _, rfl, rfl, _, rfl, ?_⟩
        refine ite2 (fun hlt => ?_) (fun hlt => ?_)
        · refine ⟨_, rfl, _, rfl, _, _, rfl, rfl, ⟨by decide, by decide, by decide⟩, _, _, rfl, rfl, _, rfl, ?_⟩
          refine ite2 (fun hge => ?_) (fun hge => ?_)
          · have hge := of_decide_eq_true hge
            refine ⟨_, rfl, _, rfl, _, _, rfl, rfl, ⟨by decide, by decide, by decide⟩, _, _, rfl, rfl, _, _, rfl, rfl, .inl ⟨by decide, by decide⟩, ?_⟩
            refine ⟨_, rfl, _, _, rfl, rfl, .inr ⟨_, rfl, ?_⟩⟩
            refine ⟨_, _, rfl, rfl, ?_⟩
            have gpos : (0 : Int) ≤ 2 * ((if raw < 0 then -raw else raw) - 10 ^ (18 : Int).toNat) + (if decide (raw < 0) = true then 1 else 0) := by
              have : (0 : Int) ≤ (if decide (raw < 0) = true then 1 else 0) := by split <;> omega
              omega
            refine ⟨_, rfl, .inl ⟨_, rfl, ?_⟩⟩
            refine ⟨_, rfl, _, _, rfl, rfl, wide_div hm mb (by decide) (by decide), ?_⟩
            refine ⟨_, rfl, p, _, _, _, rfl, rfl, hp2, rfl, ?_⟩
            refine ⟨_, rfl, .inl ⟨_, rfl, ?_⟩⟩
            refine ⟨_, rfl, _, _, rfl, rfl, (by omega), ?_⟩
            have fm := fun x => fmod_pos (x := x) hm
            exact k _ _ (fm _).1 (fm _).2 (penE _ (Int.ediv_nonneg gpos (by omega))) (f2.trans (fr_upd hp2))
          · exact ⟨rfl, rfl⟩
        · exact ⟨rfl, rfl⟩

def spPick (K : PySem.W.Frag) : Sp := fun vs H Q _ => ∃ (p l : Addr) (xs : List V) (n : Nat), vs = [.ref p, .ref l] ∧ SqL K H l xs ∧ l ≠ p ∧ 0 < xs.length ∧ xs.length < 1000000 ∧ Pen H p n ∧ n < 100000 ∧ ∀ (x : V) (H' : Hp), x ∈ xs → Pen H' p (n + 1) → Fr p H H' → Q x H'
theorem ok_pick (T : Txt K mg) : FnOk P w K mg base CX0 2 T.a_pick T.fd_pick ["_law_pen_here", "_law_some"] (spPick K) := by
  refine T.F_pick.ok sc_pick (fun vs H Q E h => ?_) (fun cdv A outer s H vs Q E hr h => ?_)
  · obtain ⟨p, l, xs, n, rfl, _⟩ := h; rfl
  · obtain ⟨p, l, xs, n, rfl, hS, hne, h0, h1, hP, hn, k⟩ := h
    refine ⟨_, pss_one (ps_ret (pe_ix ix_list (pv 1) (pe_call (ok_draw T) (hr.mono (by decide)) rfl T.m_draw T.F_draw.kp (b_draw T) .nil pass0 (pa_cons (pv 0) (pa_cons (pe_callB call_len_seq (by rfl) T.n_len (by decide +kernel) (pa_cons (pv 1) (pa_nil))) (pa_nil)))) (fun _ _ => rfl))), ?_⟩
    refine ⟨_, rfl, _, rfl, _, rfl, l, xs, rfl, .inl hS, p, _, n, rfl, (by omega), (by omega), hP, hn, fun r H' r0 r1 hP' fr => ?_⟩
    obtain ⟨x, hx, he⟩ := atI_any r0 r1
    exact ⟨l, xs, _, x, rfl, rfl, fr.seq hne hS, he, k x H' hx hP' fr⟩
/-! ### what is neither the pen nor a table stays -/
open Classical in
noncomputable def core (p : Addr) (H : Hp) : Hp := fun b => if b = p ∨ ∃ ps, H b = some (.tbl ps) then Option.none else H b
theorem core_sub {p : Addr} {H : Hp} : Same (core p H) H := fun b o e => by
  unfold core at e
  split at e
  · cases e
  · exact e
theorem core_at {p : Addr} {H : Hp} {a : Addr} {o : HO} (h : H a = some o) (n : a ≠ p) (nt : ∀ ps, o ≠ .tbl ps) : core p H a = some o := by
  unfold core
  rw [if_neg]
  · exact h
  · rintro (z | ⟨ps, z⟩)
    · exact n z
    · rw [h] at z
      exact nt ps (Option.some.inj z)
theorem core_of {p : Addr} {H : Hp} {a : Addr} {o : HO} (h : core p H a = some o) : a ≠ p ∧ (∀ ps, o ≠ .tbl ps) ∧ H a = some o := by
  have h2 := core_sub _ _ h
  unfold core at h
  split at h
  · cases h
  · rename_i n
    exact ⟨fun z => n (.inl z), fun ps z => n (.inr ⟨ps, z ▸ h2⟩), h2⟩
theorem core_fr {p : Addr} {H H' : Hp} (e : Fr p H H') : Same (core p H) H' := fun b o q => by
  obtain ⟨q1, _, q3⟩ := core_of q
  exact e b o q1 q3
theorem core_same {p : Addr} {H H' : Hp} (e : Same H H') : Same (core p H) H' := fun b o q => e b o (core_of q).2.2
theorem core_up {p : Addr} {H H' : Hp} (e : Same (core p H) H') : Same (core p H) (core p H') := fun b o q => by
  obtain ⟨q1, q2, _⟩ := core_of q
  exact core_at (e b o q) q1 q2
theorem SqL.same {K : PySem.W.Frag} {H H' : Hp} {a : Addr} {xs : List V} (s : Same H H') (h : SqL K H a xs) : SqL K H' a xs := by
  rcases h with (h | ⟨o, h⟩) | h
  · exact .inl (.inl (s _ _ h))
  · exact .inl (.inr ⟨o, s _ _ h⟩)
  · exact .inr h

theorem SqT.same {K : PySem.W.Frag} {H H' : Hp} {a : Addr} {xs : List V} (s : Same H H') (h : SqT K H a xs) : SqT K H' a xs := by
  rcases h with (h | ⟨o, h⟩) | h
  · exact .inl (.inl (s _ _ h))
  · exact .inl (.inr ⟨o, s _ _ h⟩)
  · exact .inr h
mutual
theorem dp_same {K : PySem.W.Frag} {H H' : Hp} (s : Same H H') : ∀ (d : PyData) (v : V), Dp K H v d → Dp K H' v d
  | .none, _, h => by cases h; exact .non
  | .bool _, _, h => by cases h; exact .bl _
  | .int _, _, h => by cases h; exact .int _
  | .str _, _, h => by cases h; exact .str _
  | .list ds, _, h => by
    cases h with
    | lst h1 ha => exact .lst (SqL.same s h1) (dp_sameAll s ds _ ha)
  | .tuple ds, _, h => by
    cases h with
    | tup h1 ha => exact .tup (SqT.same s h1) (dp_sameAll s ds _ ha)
  | .dict _, _, h => by cases h
theorem dp_sameAll {K : PySem.W.Frag} {H H' : Hp} (s : Same H H') : ∀ (ds : List PyData) (vs : List V), DpAll K H vs ds → DpAll K H' vs ds
  | [], _, h => by cases h; exact .nil
  | d :: ds, _, h => by
    cases h with
    | cons h1 h2 => exact .cons (dp_same s d _ h1) (dp_sameAll s ds _ h2)
end

def spStretch (K : PySem.W.Frag) : Sp := fun vs H Q _ => ∃ (p k : Int) (a : Addr) (os : List Int), vs = [.int p, .ref a, .int k] ∧ H a = some (.lst (os.map V.int)) ∧ os.length ≤ 60 ∧ 2 ≤ p ∧ p ≤ 1000 ∧ 0 ≤ k ∧
  ∀ (t lt : Addr) (H' : Hp) (b w : Int), Same H H' → NM.LeastSt p os ((os.length : Nat) - k) w b → H' lt = some (.tup ((NM.leftSt p b w os).map fun i : Nat => V.int i)) → H' t = some (.tup [.int b, .int w, .ref lt]) → Q (.ref t) H'
theorem ok_stretch (T : Txt K mg) : FnOk P w K mg base CX0 1 T.a_stretch T.fd_stretch ["_law_period", "_law_offsets", "_law_skip"] (spStretch K) := by
  refine T.F_stretch.ok sc_stretch (fun vs H Q E h => ?_) (fun cdv A outer s H vs Q E hr h => ?_)
  · obtain ⟨p, k, a, os, rfl, _⟩ := h; rfl
  · obtain ⟨p, k, a, os, rfl, ha, hl, hp, hp1, hk, q⟩ := h
    refine ⟨_, pss_cons (ps_set (i := 3) sc_stretch.nd rfl (Or.inl rfl) (pe_op op_sub (pe_callB call_len_seq (by rfl) T.n_len (by decide +kernel) (pa_cons (pv 1) (pa_nil))) (pv 2)))
      (pss_cons (ps_for PassesOwn.never rfl (pi_range1 (by rfl) T.n_range (pa_cons (pv 0) (pa_nil))) (pg_name (i := 4) sc_stretch.nd rfl (Or.inr rfl)) (pss_one (ps_for PassesOwn.never rfl (pi_range1 (by rfl) T.n_range (pa_cons (pv 0) (pa_nil))) (pg_name (i := 5) sc_stretch.nd rfl (Or.inr rfl)) (pss_cons (ps_setLc (i := 6) (own := [("_law_at", 7), ("_law_offset", 8)]) rfl sc_stretch.nd rfl rfl (sw_true rfl rfl rfl (by decide +kernel)) (pi_enum (by rfl) T.n_enumerate (pa_cons (pv 1) pa_nil)) (blkOk_by (own := [("_law_at", 7), ("_law_offset", 8)]) (N := ["_law_period", "_law_offsets", "_law_skip", "_law_many", "_law_width", "_law_begin", "_law_left", "_law_at", "_law_offset"]) (sc := defScope s_stretch) (by decide +kernel)) (fun _ _ _ _ _ => pg_tup2 K 2 (by rfl) (by rfl) (pgs_cons (pg_name (i := 7) sc_stretch.nd rfl (Or.inl rfl)) (pgs_cons (pg_name (i := 8) sc_stretch.nd rfl (Or.inl rfl)) (pgs_nil)))) (fun _ _ _ _ _ => pts_one (pt_cmpR op_gt (pe_op op_modN (pe_callTy call_int1 (by rfl) T.n_int (by decide +kernel) (pa_cons (pe_op op_sub (pv 8) (pv 5)) (pa_nil))) (pv 0)) (pv 4) (nomark _))) (fun _ _ _ _ _ => pv 7))
      (pss_one (ps_if (pt_cmpR op_ge (pe_op op_sub (pe_callB call_len_seq (by rfl) T.n_len (by decide +kernel) (pa_cons (pv 1) (pa_nil))) (pe_callB call_len_seq (by rfl) T.n_len (by decide +kernel) (pa_cons (pv 6) (pa_nil)))) (pv 3) (nomark _)) (pss_one (ps_ret (pe_tup (pa_cons (pv 5) (pa_cons (pv 4) (pa_cons (pe_callTy call_tuple_of (by rfl) T.n_tuple (by decide +kernel) (pa_cons (pv 6) (pa_nil))) (pa_nil))))))) (pss_nil)))))))
      (pss_one (ps_ret (pe_non)))), ?_⟩
    refine ⟨_, rfl, a, _, rfl, .inl (SqL.of ha), _, rfl, _, _, rfl, rfl, ?_⟩
    have los : (os.map V.int).length = os.length := List.length_map ..
    rw [los]
    refine ⟨_, rfl, p, rfl, by omega, by omega, for_range (n := p.toNat) (fun i σ H' => Same H H' ∧ (∀ w b : Int, 0 ≤ w → w < (i : Int) → 0 ≤ b → b < p → ¬ NM.Valid p os ((os.length : Nat) - k) w b) ∧ ∃ x4 x5 x6 x7 x8 : Option V, σ = [some (.int p), some (.ref a), some (.int k), some (.int ((os.length : Nat) - k)), x4, x5, x6, x7, x8])
      ⟨fun _ _ e => e, fun w b h1 h2 => by omega, _, _, _, _, _, rfl⟩ ?_ ?_⟩
    · rintro i σ H1 hi ⟨s1, hv, x4, x5, x6, x7, x8, rfl⟩
      refine ⟨_, rfl, p, rfl, by omega, by omega, for_range (n := p.toNat) (fun j σ H' => Same H H' ∧ (∀ b : Int, 0 ≤ b → b < (j : Int) → ¬ NM.Valid p os ((os.length : Nat) - k) (i : Int) b) ∧ ∃ x5 x6 x7 x8 : Option V, σ = [some (.int p), some (.ref a), some (.int k), some (.int ((os.length : Nat) - k)), some (.int (0 + (i : Int))), x5, x6, x7, x8])
        ⟨s1, fun b h1 h2 => by omega, _, _, _, _, rfl⟩ ?_ ?_⟩
      · rintro j σ H2 hj ⟨s2, hb, x5, x6, x7, x8, rfl⟩
        refine ⟨_, rfl, a, _, rfl, SqL.of (s2 _ _ ha), fun D hD => lc_it (walk_enum (K := K) (a := a) (xs := os.map V.int)) (fun m H' => Same H2 H' ∧ H' D = some (.lst (((List.range m).filter fun x => !NM.inSt p (j : Int) (i : Int) (os.getD x 0)).map fun x : Nat => V.int x))) ⟨same_new hD, upd_same⟩ (fun m H' _ h => SqL.of (h.1 _ _ (s2 _ _ ha))) ?_ ?_⟩
        · rintro m v H3 H4 hm ⟨s3, hD3⟩ ⟨t, y, z, rfl, ht, rfl, ey, ez⟩
          cases ey
          have ez : (os.map V.int)[m]? = some z := ez
          rw [List.getElem?_map] at ez
          obtain ⟨o, eo, rfl⟩ := Option.map_eq_some_iff.mp ez
          have st := same_new (o := .tup [.int (m : Nat), .int o]) ht
          have hm : m < os.length := by rw [← los]; exact hm
          have go : os.getD m 0 = o := by rw [List.getD_eq_getElem?_getD, eo]; rfl
          refine ⟨t, _, rfl, SqT.of upd_same, rfl, _, _, rfl, _, _, rfl, rfl, ?_⟩
          refine ⟨rfl, _, rfl, _, rfl, _, _, rfl, rfl, .inl ⟨_, rfl, _, rfl, _, _, rfl, rfl, (by omega), _, rfl, _, _, rfl, rfl, _, rfl, ?_⟩⟩
          have ec : decide ((0 + (i : Int)) < (o - (0 + (j : Int))).fmod p) = !NM.inSt p (j : Int) (i : Int) (os.getD m 0) := by
            unfold NM.inSt
            rw [go, Int.fmod_eq_emod_of_nonneg _ (by omega), ← decide_not, decide_eq_decide, Int.zero_add, Int.zero_add]
            omega
          have hDt := st _ _ hD3
          refine ite2 (fun hc => ?_) (fun hc => ?_)
          · have hc : (!NM.inSt p (j : Int) (i : Int) (os.getD m 0)) = true := ec.symm.trans hc
            refine ⟨_, rfl, _, hDt, ?_, same_up (s3.trans st) hD, ?_⟩
            · have : ((List.range m).filter fun x => !NM.inSt p (j : Int) (i : Int) (os.getD x 0)).length ≤ (List.range m).length := List.length_filter_le _ _
              rw [List.length_map]
              rw [List.length_range] at this
              exact Nat.lt_of_lt_of_le (show _ < 61 by omega) (by decide)
            · rw [upd_same, filter_range, if_pos hc, List.map_append]
              rfl
          · have hc : ¬ (!NM.inSt p (j : Int) (i : Int) (os.getD m 0)) = true := fun z => hc (ec.trans z)
            refine ⟨s3.trans st, ?_⟩
            rw [hDt, filter_range, if_neg hc, List.append_nil]
        · rintro H3 ⟨s3, hD3⟩
          rw [los] at hD3
          have hD3 : H3 D = some (.lst ((NM.leftSt p (j : Int) (i : Int) os).map fun x : Nat => V.int x)) := hD3
          have cnt := NM.left_count (p := p) (b := (j : Int)) (w := (i : Int)) os
          refine ⟨_, rfl, a, _, rfl, .inl (SqL.of (s3 _ _ (s2 _ _ ha))), _, rfl, D, _, rfl, .inl (SqL.of hD3), _, _, rfl, rfl, _, rfl, _, _, rfl, rfl, _, rfl, ?_⟩
          have lL : ((NM.leftSt p (j : Int) (i : Int) os).map fun x : Nat => V.int x).length = (NM.leftSt p (j : Int) (i : Int) os).length := List.length_map ..
          have iff1 : ((os.length : Nat) : Int) - k ≤ (((os.map V.int).length : Nat) : Int) - ((((NM.leftSt p (j : Int) (i : Int) os).map fun x : Nat => V.int x).length : Nat) : Int) ↔ NM.Valid p os ((os.length : Nat) - k) (i : Int) (j : Int) := by
            rw [los, lL]
            unfold NM.Valid
            omega
          refine ite2 (fun hc => ?_) (fun hc => ?_)
          · have hc := iff1.mp (of_decide_eq_true hc)
            refine ⟨_, rfl, _, rfl, _, rfl, D, _, rfl, .inl ⟨SqL.of hD3, fun lt hlt => ⟨(by show 3 ≤ sizeLine; decide), fun t ht => ?_⟩⟩⟩
            refine q t lt _ (0 + (j : Int)) (0 + (i : Int)) (s2.trans (s3.trans ((same_new hlt).trans (same_new ht)))) ?_ ?_ upd_same
            · rw [Int.zero_add, Int.zero_add]
              refine ⟨by omega, by omega, by omega, by omega, hc, fun w' b' h1 h2 h3 h4 h5 => ?_⟩
              unfold NM.lexLe
              by_cases e1 : w' < (i : Int)
              · exact absurd h5 (hv w' b' h1 e1 h3 h4)
              · by_cases e2 : w' = (i : Int)
                · subst e2
                  by_cases e3 : b' < (j : Int)
                  · exact absurd h5 (hb b' h3 e3)
                  · exact .inr ⟨rfl, by omega⟩
                · exact .inl (by omega)
            · rw [Int.zero_add, Int.zero_add]
              exact same_new ht _ _ upd_same
          · have hc : ¬ NM.Valid p os ((os.length : Nat) - k) (i : Int) (j : Int) := fun z => hc (decide_eq_true (iff1.mpr z))
            refine ⟨s2.trans s3, fun b h1 h2 => ?_, _, _, _, _, rfl⟩
            by_cases e : b = (j : Int)
            · rw [e]; exact hc
            · exact hb b h1 (by omega)
      · rintro σ H2 ⟨s2, hb, x5, x6, x7, x8, rfl⟩
        refine ⟨s2, fun w b h1 h2 h3 h4 => ?_, _, _, _, _, _, rfl⟩
        by_cases e : w = (i : Int)
        · rw [e]; exact hb b h3 (by omega)
        · exact hv w b h1 (by omega) h3 h4
    · rintro σ H1 ⟨s1, hv, x4, x5, x6, x7, x8, rfl⟩
      exfalso
      refine hv (p - 1) 0 (by omega) (by omega) (by omega) (by omega) ?_
      unfold NM.Valid
      have : os.countP (NM.inSt p 0 (p - 1)) = os.length := by
        rw [List.countP_eq_length]
        intro o _
        unfold NM.inSt
        have := Int.emod_lt_of_pos (o - 0) (show 0 < p by omega)
        exact decide_eq_true (by omega)
      omega

theorem shown_int120 {i : Int} (h : i.natAbs < 10 ^ 120) : (PyData.shown (.int i)).length ≤ 121 := by
  have e := int_text_length_le10 (k := 120) (by decide) h
  show (Str.ofString (toString i)).length ≤ 121
  rw [PySem.ofString_length]; exact e
theorem log_int120 {i : Int} (h : i.natAbs < 10 ^ 120) : i.natAbs.log2 < 399 := by
  by_cases n0 : i.natAbs = 0
  · rw [n0]; decide
  · exact (Nat.log2_lt n0).mpr (Nat.lt_of_lt_of_le h (by decide +kernel))
theorem weight_int120 {i : Int} (h : i.natAbs < 10 ^ 120) : (PyData.int i).weight ≤ 400 := by
  have l := log_int120 h
  simp only [PyData.weight]
  split <;> omega
/-- shown without harm -/
def Fine (n : Nat) (d : PyData) : Prop := d.showable = true ∧ d.leavesShort 121 = true ∧ d.weight ≤ n
theorem Fine.int {i : Int} (h : i.natAbs < 10 ^ 120) : Fine 400 (.int i) := by
  have l := log_int120 h
  refine ⟨?_, ?_, weight_int120 h⟩
  · simp only [PyData.showable, decide_eq_true_eq]; omega
  · simp only [PyData.leavesShort, decide_eq_true_eq]; exact shown_int120 h
def FineAll (n : Nat) (ds : List PyData) : Prop := PyData.showableAll ds = true ∧ PyData.leavesShortAll 121 ds = true ∧ PyData.weightAll ds ≤ n
theorem FineAll.nil : FineAll 0 [] := ⟨rfl, rfl, Nat.le_refl _⟩
theorem FineAll.cons {n m : Nat} {d : PyData} {ds : List PyData} (h : Fine n d) (g : FineAll m ds) : FineAll (n + 1 + m) (d :: ds) := by
  refine ⟨?_, ?_, ?_⟩
  · simp only [PyData.showableAll, h.1, g.1, Bool.and_self]
  · simp only [PyData.leavesShortAll, h.2.1, g.2.1, Bool.and_self]
  · have := h.2.2
    have := g.2.2
    simp only [PyData.weightAll]
    omega
theorem FineAll.tup {n : Nat} {ds : List PyData} (h : FineAll n ds) : Fine n (.tuple ds) :=
  ⟨by simp only [PyData.showable, h.1], by simp only [PyData.leavesShort, h.2.1], by simp only [PyData.weight]; exact h.2.2⟩
theorem Fine.mono {n m : Nat} {d : PyData} (l : n ≤ m) (h : Fine n d) : Fine m d := ⟨h.1, h.2.1, Nat.le_trans h.2.2 l⟩
theorem Fine.size {n : Nat} {d : PyData} (h : Fine n d) (l : n ≤ 10000) : d.shown.length ≤ sizeLine := by
  have z := PyData.shown_le 121 (by decide) d h.2.1
  have h2 : (121 + 2) * d.weight ≤ 123 * 10000 := Nat.mul_le_mul (by omega) (Nat.le_trans h.2.2 l)
  rw [sizeLine_eq]
  omega

/-! ### the truth of a plain instance -/
section
variable {X : Cx} {C : Addr}
theorem tru_plain {A : Around} {pins : List (Addr × Obj)} {σ : L2.St} {H : Hp} {s : Shared} {R : Bool → Shared → Prop} {a dx : Addr} {fs : List (Str × V)} (I : Inv X pins σ H s) (ha : H a = some (.ins C dx fs))
    (hn : PySem.W.findIn X.K (.ref C) "__bool__" = some none) (hs : PySem.W.findIn X.K (.ref C) "__len__" = some none)
    (h : R true s) : wpAny (model X.prog X.w) A (truthy (.ref a)) R X.xe s := by
  obtain ⟨o, od, J⟩ := ins_at I ha
  have XI := I.kIn
  unfold truthy
  refine wpAny_bind (m := callSpecial? (.ref a) (Str.ofString "__bool__")) (wpAny_bind (wpAny_bind (J.type.here ((PySem.W.looks_findIn XI hn).here (wpAny_pure ?_)))))
  refine wpAny_bind (wpAny_bind (J.type.here ((PySem.W.looks_findIn XI hs).here ?_)))
  show wpAny _ _ (if (Option.none : Option Value).isNone = true then _ else _) _ _ _
  rw [if_pos (show (Option.none : Option Value).isNone = true from rfl)]
  exact wpAny_pure h
/-- bool(x) of an instance of a class without __bool__ and __len__ -/
def rBoolI (C : Addr) : List V → Hp → VK → Prop := fun xs H Q => ∃ (a dx : Addr) (fs : List (Str × V)), xs = [.ref a] ∧ H a = some (.ins C dx fs) ∧ Q (.bl true) H
theorem call_boolI (hn : PySem.W.findIn X.K (.ref C) "__bool__" = some none) (hs : PySem.W.findIn X.K (.ref C) "__len__" = some none) : CallR X (.type "bool") (rBoolI C) := by
  intro pins s σ H xs us Q I r h
  obtain ⟨a, dx, fs, rfl, ha, q⟩ := h
  obtain ⟨u, rfl, ru⟩ := vals1 r
  obtain rfl : u = Value.ref a := ru
  refine bool_own fun A' e => ?_
  exact tru_plain I ha hn hs ⟨.bl true, H, I, rfl, q⟩
end

theorem Fine.ints : ∀ {l : List Int}, (∀ i ∈ l, i.natAbs < 10 ^ 120) → FineAll (401 * l.length) (l.map PyData.int)
  | [], _ => FineAll.nil
  | a :: r, h => by
    have z := FineAll.cons (Fine.int (h a (List.mem_cons_self ..))) (Fine.ints fun i hi => h i (List.mem_cons_of_mem _ hi))
    exact ⟨z.1, z.2.1, Nat.le_trans z.2.2 (by rw [List.length_cons]; omega)⟩
/-- what a Stretch is, shown -/
def stD (b w : Int) (l : List Nat) : PyData := .tuple [.int b, .int w, .tuple ((l.map fun i : Nat => (i : Int)).map PyData.int)]
theorem fine_st {b w : Int} {l : List Nat} (hb : b.natAbs < 10 ^ 120) (hw : w.natAbs < 10 ^ 120) (hl : l.length ≤ 10) (hi : ∀ i ∈ l, i < 1000) : (stD b w l).showable = true ∧ (stD b w l).depth ≤ 60 ∧ (stD b w l).shown.length ≤ sizeLine := by
  have f : FineAll (401 * (l.map fun i : Nat => (i : Int)).length) ((l.map fun i : Nat => (i : Int)).map PyData.int) := Fine.ints fun i h => by
    obtain ⟨n, hn, rfl⟩ := List.mem_map.mp h
    have := hi n hn
    have e : (1000 : Nat) ≤ 10 ^ 120 := by decide +kernel
    omega
  have g := ((Fine.int hb).mono (Nat.le_refl _))
  have t : FineAll _ [PyData.int b, .int w, .tuple ((l.map fun i : Nat => (i : Int)).map PyData.int)] := FineAll.cons g (FineAll.cons (Fine.int hw) (FineAll.cons f.tup FineAll.nil))
  have z := t.tup
  refine ⟨z.1, ?_, z.size ?_⟩
  · show PyData.depth _ ≤ 60
    simp only [stD, PyData.depth, PyData.depthAll]
    have : ∀ l : List Int, PyData.depthAll (l.map PyData.int) ≤ 1 := fun l => by
      induction l with
      | nil => simp [PyData.depthAll]
      | cons a r ih => simp only [List.map_cons, PyData.depthAll, PyData.depth]; omega
    have := this (l.map fun i : Nat => (i : Int))
    omega
  · rw [List.length_map]
    omega
theorem dp_st {K : PySem.W.Frag} {H : Hp} {t lt : Addr} {b w : Int} {l : List Nat} (ht : SqT K H t [.int b, .int w, .ref lt]) (hl : SqT K H lt (l.map fun i : Nat => V.int i)) : Dp K H (.ref t) (stD b w l) := by
  have e : (l.map fun i : Nat => V.int i) = (l.map fun i : Nat => (i : Int)).map V.int := by rw [List.map_map]; rfl
  rw [e] at hl
  exact .tup ht (.cons (.int _) (.cons (.int _) (.cons (.tup hl (dp_ints _)) .nil)))
theorem shaped_st {b w : Int} {l : List Nat} : SeqAt.shaped (stD b w l) = true := by
  have e1 := canLay_ints (l.map fun i : Nat => (i : Int))
  have e2 := depth_ints (l.map fun i : Nat => (i : Int))
  rw [List.map_map] at e1 e2
  simp [stD, SeqAt.shaped, PyData.canLay0, PyData.canLayAll0, PyData.depth, PyData.depthAll, e1, e2]
/-! ### keywords -/
def gkC (α : Type) : List α → List α → List α
  | [], [c, b, a] => [a, b, c]
  | _, _ => []
theorem kb_C {fd : FuncData} {p1 p2 p3 k1 k2 k3 : Str} (h : ∀ (a b c : Value) (s : Shared), BindsTo s fd ⟨[], [(k1, c), (k2, b), (k3, a)]⟩ [(p1, a), (p2, b), (p3, c)]) : KBinds K fd [p1, p2, p3] [k1, k2, k3] (gkC Value) (gkC V) := by
  refine ⟨fun s us ws _ hl => ?_, fun {vs us zs ws} r rz => ?_⟩
  · match us, ws, hl with
    | [], [c, b, a], _ => exact h a b c s
    | [], [], h => simp [gkC] at h
    | [], [_], h => simp [gkC] at h
    | [], [_, _], h => simp [gkC] at h
    | [], _ :: _ :: _ :: _ :: _, h => simp [gkC] at h
    | _ :: _, _, h => simp [gkC] at h
  · match vs, us, zs, ws, r, rz with
    | _, _, _, _, .nil, .nil => exact .nil
    | _, _, _, _, .nil, .cons _ .nil => exact .nil
    | _, _, _, _, .nil, .cons _ (.cons _ .nil) => exact .nil
    | _, _, _, _, .nil, .cons r1 (.cons r2 (.cons r3 .nil)) => exact .cons r3 (.cons r2 (.cons r1 .nil))
    | _, _, _, _, .nil, .cons _ (.cons _ (.cons _ (.cons _ _))) => exact .nil
    | _, _, _, _, .cons _ _, _ => exact .nil
theorem kb_least_play (T : Txt K mg) : KBinds K T.fd_least_play ["period", "offsets", "skip"] ["skip", "offsets", "period"] (gkC Value) (gkC V) := by
  obtain ⟨oc, od, kV, doc, pm, an, cdv, ct, osl, e, lk, hcd⟩ := T.F_least_play.ex
  refine kb_C fun a b c s => ?_
  rw [e]; exact .of_eq rfl
def gkI (α : Type) : List α → List α → List α
  | [x], [c, b, a] => [x, a, b, c]
  | _, _ => []
theorem kb_I {fd : FuncData} {p0 p1 p2 p3 k1 k2 k3 : Str} (h : ∀ (x a b c : Value) (s : Shared), BindsTo s fd ⟨[x], [(k1, c), (k2, b), (k3, a)]⟩ [(p0, x), (p1, a), (p2, b), (p3, c)]) : KBn K fd [p0, p1, p2, p3] 1 [k1, k2, k3] (gkI Value) (gkI V) := by
  refine ⟨fun s us ws _ hu hl => ?_, fun {vs us zs ws} r rz => ?_⟩
  · match us, ws, hu, hl with
    | [x], [c, b, a], _, _ => exact h x a b c s
    | [x], [], _, h => simp at h
    | [x], [_], _, h => simp at h
    | [x], [_, _], _, h => simp at h
    | [x], _ :: _ :: _ :: _ :: _, _, h => simp at h
  · match vs, us, zs, ws, r, rz with
    | _, _, _, _, .nil, _ => exact .nil
    | _, _, _, _, .cons _ .nil, .nil => exact .nil
    | _, _, _, _, .cons _ .nil, .cons _ .nil => exact .nil
    | _, _, _, _, .cons _ .nil, .cons _ (.cons _ .nil) => exact .nil
    | _, _, _, _, .cons r0 .nil, .cons r1 (.cons r2 (.cons r3 .nil)) => exact .cons r0 (.cons r3 (.cons r2 (.cons r1 .nil)))
    | _, _, _, _, .cons _ .nil, .cons _ (.cons _ (.cons _ (.cons _ _))) => exact .nil
    | _, _, _, _, .cons _ (.cons _ _), _ => exact .nil
theorem kb_Stretch (T : Txt K mg) : KBn K T.fd_Stretch_init ["self", "begin", "width", "left"] 1 ["left", "width", "begin"] (gkI Value) (gkI V) := by
  obtain ⟨oc, od, kV, doc, pm, an, cdv, ct, osl, e, lk, hcd⟩ := T.F_Stretch_init.ex
  refine kb_I fun x a b c s => ?_
  rw [e]; exact .of_eq rfl
theorem rI0_add {i j k : Int} {H : Hp} {Q : VK} (e : i + j = k) (h : Q (.int k) H) : rI0 (fun i j => V.int (i + j)) (.int i) (.int j) H Q := ⟨i, j, rfl, rfl, by show Q (.int (i + j)) H; rw [e]; exact h⟩
theorem ne_strV (s : Str) : V.bl (!decide (V.str s = V.str s)) = V.bl false := by rw [decide_eq_true rfl]; rfl
theorem Pen.app {H H' : Hp} {p cc L : Addr} {n : Nat} {o : HO} {ys : List V} (hP : Pen H' p n) (f : Fr p H H') (hp0 : H p = some (.lst (.ref cc :: ys))) (ncL : cc ≠ L) (nLp : L ≠ p) : Pen (upd H' L o) p n := by
  obtain ⟨c, ns, i0, g, q1, q2, q3⟩ := hP
  obtain ⟨ys', q4⟩ := f.head _ _ hp0
  rw [q1] at q4
  cases q4
  exact ⟨cc, ns, i0, g, by rw [upd_ne nLp.symm]; exact q1, by rw [upd_ne ncL]; exact q2, q3⟩
theorem Fr.app {H H' : Hp} {p L : Addr} {o : HO} (f : Fr p H H') (hL : H L = Option.none) (nLp : L ≠ p) : Fr p H (upd H' L o) := by
  refine ⟨fun a o' na e => ?_, fun v xs e => ?_⟩
  · rw [upd_ne (ne_of_none e hL)]
    exact f.keep a o' na e
  · rw [upd_ne nLp.symm]
    exact f.head v xs e
def spRight : Sp := fun vs H Q _ => ∃ (p : Addr) (n : Nat), vs = [.ref p] ∧ Pen H p n ∧ n < 90000 ∧ ∀ H', Pen H' p (n + 30) → Fr p H H' → Q (.bl true) H'
theorem ok_right (T : Txt K mg) : FnG P w K mg base CX0 6 T.a_right spRight := by
  refine FnG.mk0 T.F_right sc_right (b_right T) (fun vs H Q E h => ?_) (fun cdv A outer s H vs Q E gu hr h => ?_)
  · obtain ⟨p, n, rfl, _⟩ := h; rfl
  · obtain ⟨pn, n, rfl, hP, hn, k⟩ := h
    refine ⟨_, pss_cons (ps_asg (pe_tup (pa_cons (pe_op op_add (pe_int) (pe_call (ok_draw T) (hr.mono (by decide)) rfl T.m_draw T.F_draw.kp (b_draw T) .nil pass0 (pa_cons (pv 0) (pa_cons (pe_int) (pa_nil))))) (pa_cons (pe_call (ok_pick T) (hr.mono (by decide)) rfl T.m_pick T.F_pick.kp (b_pick T) .nil pass0 (pa_cons (pv 0) (pa_cons (pe_lst (pa_cons (pe_int) (pa_cons (pe_int) (pa_cons (pe_int) (pa_cons (pe_int) (pa_cons (pe_int) (pa_cons (pe_int) (pa_cons (pe_call (ok_draw T) (hr.mono (by decide)) rfl T.m_draw T.F_draw.kp (b_draw T) .nil pass0 (pa_cons (pv 0) (pa_cons (pe_int) (pa_nil)))) (pa_nil))))))))) (pa_nil)))) (pa_nil)))) (pg_tup rfl (pgs_cons (pg_name (i := 1) sc_right.nd rfl (Or.inr rfl)) (pgs_cons (pg_name (i := 2) sc_right.nd rfl (Or.inl rfl)) (pgs_nil)))))
      (pss_cons (ps_set (i := 3) sc_right.nd rfl (Or.inr rfl) (pe_lst (pa_cons (pe_int) (pa_cons (pe_op op_sub (pv 1) (pe_int)) (pa_cons (pe_call (ok_draw T) (hr.mono (by decide)) rfl T.m_draw T.F_draw.kp (b_draw T) .nil pass0 (pa_cons (pv 0) (pa_cons (pv 1) (pa_nil)))) (pa_cons (pe_call (ok_draw T) (hr.mono (by decide)) rfl T.m_draw T.F_draw.kp (b_draw T) .nil pass0 (pa_cons (pv 0) (pa_cons (pv 1) (pa_nil)))) (pa_nil)))))))
      (pss_cons (ps_setLc (i := 4) (own := [("_law_turn", 5)]) (g := gName 5) (tt := tYes) rfl sc_right.nd rfl rfl (sw_true rfl rfl rfl (by decide +kernel)) (pi_range1 (by rfl) T.n_range (pa_cons (pe_call (ok_draw T) (hr.mono (by decide)) rfl T.m_draw T.F_draw.kp (b_draw T) .nil pass0 (pa_cons (pv 0) (pa_cons (pe_int) (pa_nil)))) (pa_nil))) (blkOk_by (own := [("_law_turn", 5)]) (N := ["_law_pen_here", "_law_period", "_law_skip", "_law_some", "_law_offsets", "_law_turn", "_law_held", "_law_due", "_law_told", "_law_many", "_law_wide", "_law_offset"]) (sc := defScope s_right) (by decide +kernel)) (fun _ _ _ _ _ => pg_name (i := 5) sc_right.nd rfl (Or.inl rfl)) (fun _ _ _ _ _ => pts_nil) (fun _ _ _ _ _ => pe_call (ok_pick T) (hr.mono (by decide)) rfl T.m_pick T.F_pick.kp (b_pick T) .nil pass0 (pa_cons (pv 0) (pa_cons (pe_op op_cat (pv 3) (pe_lst (pa_cons (pe_call (ok_draw T) (hr.mono (by decide)) rfl T.m_draw T.F_draw.kp (b_draw T) .nil pass0 (pa_cons (pv 0) (pa_cons (pv 1) (pa_nil)))) (pa_nil)))) (pa_nil)))))
      (pss_cons (ps_set (i := 6) sc_right.nd rfl (Or.inl rfl) (pe_callTy call_list_of (by rfl) T.n_list (by decide +kernel) (pa_cons (pv 4) (pa_nil))))
      (pss_cons (ps_par (i := 7) (j := 8) (by rfl) sc_right.nd rfl rfl (by decide) rfl rfl (pa_cons (pe_call (ok_stretch T) (hr.mono (by decide)) rfl T.m_stretch T.F_stretch.kp (b_stretch T) .nil pass0 (pa_cons (pv 1) (pa_cons (pv 6) (pa_cons (pv 2) (pa_nil))))) (pa_cons (pe_call (ok_least_play T) (hr.mono (by decide)) rfl T.m_least_play T.F_least_play.kp (b_least_play T) .nil pass0 (pa_cons (pv 1) (pa_cons (pv 4) (pa_cons (pv 2) (pa_nil))))) (pa_nil))) (by rfl))
      (pss_cons (ps_if (PW.pt (pw_or (pt_cmpR (op_neD hr.units) (pv 4) (pv 6) (nomark _)) (pw_or (pt_not (pt_val (pe_callB call_isi (by rfl) T.n_isinstance (by decide +kernel) (pa_cons (pv 8) (pa_cons (pe_glob (v := .ref T.a_Stretch) rfl T.m_Stretch rfl) (pa_nil)))))) (pw_or1 (pt_cmpR op_ne (pe_callB (call_rep gu hr.units) (by rfl) T.n_repr (by decide +kernel) (pa_cons (pe_tup (pa_cons (pe_fld (pv 8) rfl) (pa_cons (pe_fld (pv 8) rfl) (pa_cons (pe_fld (pv 8) rfl) (pa_nil))))) (pa_nil))) (pe_callB (call_rep gu hr.units) (by rfl) T.n_repr (by decide +kernel) (pa_cons (pv 7) (pa_nil))) (nomark _)))))) (pss_one (ps_ret (pe_bl))) (pss_nil))
      (pss_cons (ps_if (PW.pt (pw_or (pt_cmpR (op_neO (ok_Stretch_eq T) (hr.mono (by decide)) (b_Stretch_eq T) pass0 T.mro_o T.fi_ne T.fi_eq T.fn_eq) (pe_callK0 (ok_least_play T) (hr.mono (by decide)) rfl T.m_least_play T.F_least_play.kp (kb_least_play T) pass0 (pk_cons (pv 2) (pk_cons (pe_callTy call_tuple_of (by rfl) T.n_tuple (by decide +kernel) (pa_cons (pv 4) (pa_nil))) (pk_cons (pv 1) (pk_nil))))) (pv 8) (nomark _)) (pw_or1 (pt_cmpR (op_neO (ok_Stretch_eq T) (hr.mono (by decide)) (b_Stretch_eq T) pass0 T.mro_o T.fi_ne T.fi_eq T.fn_eq) (pv 8) (pe_mkR T.mks ((ok_Stretch_init T).raw (b_Stretch_init T) .nil) (hr.mono (by decide)) pass0 rfl T.m_Stretch (pa_cons (pe_ix ix_tup (pv 7) (pe_int) (fun _ _ => rfl)) (pa_cons (pe_ix ix_tup (pv 7) (pe_int) (fun _ _ => rfl)) (pa_cons (pe_ix ix_tup (pv 7) (pe_int) (fun _ _ => rfl)) (pa_nil))))) (nomark _))))) (pss_one (ps_ret (pe_bl))) (pss_nil))
      (pss_cons (ps_set (i := 9) sc_right.nd rfl (Or.inr rfl) (pe_call (ok_pick T) (hr.mono (by decide)) rfl T.m_pick T.F_pick.kp (b_pick T) .nil pass0 (pa_cons (pv 0) (pa_cons (pe_lst (pa_cons (pe_int) (pa_cons (pe_op op_pow (pe_int) (pe_int)) (pa_cons (pe_op op_add (pe_op op_pow (pe_int) (pe_int)) (pe_int)) (pa_cons (pe_op op_pow (pe_int) (pe_int)) (pa_nil)))))) (pa_nil)))))
      (pss_cons (ps_set (i := 10) sc_right.nd rfl (Or.inl rfl) (pe_call (ok_least_play T) (hr.mono (by decide)) rfl T.m_least_play T.F_least_play.kp (b_least_play T) .nil pass0 (pa_cons (pe_op op_mul (pv 1) (pv 9)) (pa_cons (pe_lc (own := [("_law_offset", 11)]) (g := gName 11) (tt := tYes) rfl sc_right.nd (pi_list (pv 4)) (blkOk_by (own := [("_law_offset", 11)]) (N := ["_law_pen_here", "_law_period", "_law_skip", "_law_some", "_law_offsets", "_law_turn", "_law_held", "_law_due", "_law_told", "_law_many", "_law_wide", "_law_offset"]) (sc := defScope s_right) (by decide +kernel)) (fun _ _ _ _ _ => pg_name (i := 11) sc_right.nd rfl (Or.inl rfl)) (fun _ _ _ _ _ => pts_nil) (fun _ _ _ _ _ => pe_op op_mul (pv 11) (pv 9))) (pa_cons (pv 2) (pa_nil))))))
      (pss_one (ps_ret (pe_cmpR op_eq (pe_callB (call_rep gu hr.units) (by rfl) T.n_repr (by decide +kernel) (pa_cons (pe_tup (pa_cons (pe_fld (pv 10) rfl) (pa_cons (pe_fld (pv 10) rfl) (pa_cons (pe_fld (pv 10) rfl) (pa_nil))))) (pa_nil))) (pe_callB (call_rep gu hr.units) (by rfl) T.n_repr (by decide +kernel) (pa_cons (pe_tup (pa_cons (pe_op op_mul (pe_ix ix_tup (pv 7) (pe_int) (fun _ _ => rfl)) (pv 9)) (pa_cons (pe_op op_mul (pe_ix ix_tup (pv 7) (pe_int) (fun _ _ => rfl)) (pv 9)) (pa_cons (pe_ix ix_tup (pv 7) (pe_int) (fun _ _ => rfl)) (pa_nil))))) (pa_nil))) (nomark _)))))))))))), ?_⟩
    refine ⟨_, rfl, pn, 13, n, rfl, by decide, by decide, hP, by omega, fun r H1 r0 r1 hP1 f1 => ?_⟩
    refine rI0_add (k := 2 + r) rfl ?_
    have p0 : 2 ≤ 2 + r := by omega
    have p1 : 2 + r ≤ 14 := by omega
    generalize 2 + r = per at p0 p1 ⊢
    refine ⟨_, rfl, _, rfl, pn, 9, n + 1, rfl, by decide, by decide, hP1, by omega, fun r2 H2 r20 r21 hP2 f2 => ?_⟩
    refine ⟨(by show 7 ≤ sizeLine; decide), fun l hl => ?_⟩
    have hl0 := hP2.neq hl
    refine ⟨pn, l, _, n + 1 + 1, rfl, SqL.of upd_same, hl0, (by show 0 < 7; decide), (by show 7 < 1000000; decide), hP2.same (same_new hl), by omega, fun x H3 hx hP3 f3 => ?_⟩
    obtain ⟨skip, rfl, s0, s1⟩ : ∃ sk : Int, x = .int sk ∧ 0 ≤ sk ∧ sk ≤ 8 := by
      simp only [List.mem_cons, List.not_mem_nil, or_false] at hx
      rcases hx with e | e | e | e | e | e | e
      · exact ⟨_, e, by decide, by decide⟩
      · exact ⟨_, e, by decide, by decide⟩
      · exact ⟨_, e, by decide, by decide⟩
      · exact ⟨_, e, by decide, by decide⟩
      · exact ⟨_, e, by decide, by decide⟩
      · exact ⟨_, e, by decide, by decide⟩
      · exact ⟨_, e, by omega, by omega⟩
    have fA : Fr pn H H3 := f1.trans (f2.trans ((same_fr (same_new hl)).trans f3))
    refine ⟨(by show 2 ≤ sizeLine; decide), fun c kc => ?_⟩
    have s4 := same_new (o := .tup [V.int per, V.int skip]) kc
    have hP4 := hP3.same s4
    refine ⟨c, _, rfl, SqT.of upd_same, rfl, ?_⟩
    generalize upd H3 c (.tup [V.int per, V.int skip]) = H4 at s4 hP4 ⊢
    have fB := fA.trans (same_fr s4)
    refine ⟨_, _, rfl, _, _, rfl, rfl, ?_⟩
    refine ⟨_, rfl, _, _, rfl, rfl, ?_⟩
    refine ⟨_, rfl, _, rfl, pn, per, n + 1 + 1 + 1, rfl, by omega, by omega, hP4, by omega, fun a1 H5 a10 a11 hP5 f5 => ?_⟩
    refine ⟨_, rfl, _, rfl, pn, per, n + 1 + 1 + 1 + 1, rfl, by omega, by omega, hP5, by omega, fun a2 H6 a20 a21 hP6 f6 => ?_⟩
    refine ⟨(by show 4 ≤ sizeLine; decide), fun sl hsl => ?_⟩
    have hsl0 := hP6.neq hsl
    have s7 := same_new (o := .lst [V.int 0, .int (per - 1), .int a1, .int a2]) hsl
    have hP7 := hP6.same s7
    have hS7 : (upd H6 sl (.lst [V.int 0, .int (per - 1), .int a1, .int a2])) sl = some (.lst [V.int 0, .int (per - 1), .int a1, .int a2]) := upd_same
    have fC : Fr pn H (upd H6 sl (.lst [V.int 0, .int (per - 1), .int a1, .int a2])) := fB.trans (f5.trans (f6.trans (same_fr s7)))
    generalize upd H6 sl (.lst [V.int 0, .int (per - 1), .int a1, .int a2]) = H7 at hP7 hS7 fC ⊢
    refine ⟨_, rfl, pn, 8, n + 1 + 1 + 1 + 1 + 1, rfl, by decide, by decide, hP7, by omega, fun m H8 m0 m1 hP8 f8 => ?_⟩
    obtain ⟨cc, ns, ci, cg, hp8, hc8, _⟩ := id hP8
    have fD := fC.trans f8
    have hS8 := f8 _ _ hsl0 hS7
    refine ⟨m, rfl, by omega, by omega, fun D hD => lc_range (lo := 0) (n := m.toNat) (fun t H' => ∃ os : List Int, H' D = some (.lst (os.map V.int)) ∧ os.length = t ∧ (∀ o ∈ os, 0 ≤ o ∧ o < per) ∧ Pen H' pn (n + 6 + 2 * t) ∧ Fr pn H8 H')
      ⟨[], upd_same, rfl, fun o h => absurd h List.not_mem_nil, (hP8.same (same_new hD)).mono (by omega), same_fr (same_new hD)⟩ ?_ ?_⟩
    · have hDp := hP8.neq hD
      have hcD : cc ≠ D := ne_of_none hc8 hD
      rintro t H9 ht ⟨os, hO, lo, hb, hP9, f9⟩
      have hS9 := f9 _ _ hsl0 hS8
      refine ⟨rfl, ?_⟩
      refine ⟨_, rfl, _, rfl, _, rfl, _, rfl, pn, per, n + 6 + 2 * t, rfl, by omega, by omega, hP9, by omega, fun b Ha b0 b1 hPa fa => ?_⟩
      refine ⟨(by show 1 ≤ sizeLine; decide), fun l1 hl1 => ?_⟩
      have sa := same_new (o := .lst [V.int b]) hl1
      have hSa := sa _ _ (fa _ _ hsl0 hS9)
      refine ⟨sl, l1, _, _, rfl, rfl, hSa, upd_same, (by show 5 ≤ sizeLine; decide), fun l2 hl2 => ?_⟩
      have sb := same_new (o := .lst ([V.int 0, .int (per - 1), .int a1, .int a2] ++ [V.int b])) hl2
      have hPb := (hPa.same sa).same sb
      refine ⟨pn, l2, _, n + 6 + 2 * t + 1, rfl, SqL.of upd_same, (hPa.same sa).neq hl2, (by show 0 < 5; decide), (by show 5 < 1000000; decide), hPb, by omega, fun x Hc hx hPc fc => ?_⟩
      have lt : t < m.toNat := ht
      have fN := fa.trans ((same_fr sa).trans ((same_fr sb).trans fc))
      obtain ⟨o, rfl, o0, o1⟩ : ∃ o : Int, x = .int o ∧ 0 ≤ o ∧ o < per := by
        simp only [List.mem_cons, List.mem_append, List.not_mem_nil, or_false] at hx
        rcases hx with (e | e | e | e) | e
        · exact ⟨_, e, by omega, by omega⟩
        · exact ⟨_, e, by omega, by omega⟩
        · exact ⟨_, e, by omega, by omega⟩
        · exact ⟨_, e, by omega, by omega⟩
        · exact ⟨_, e, by omega, by omega⟩
      refine ⟨_, fN _ _ hDp hO, by rw [List.length_map, lo]; exact Nat.lt_of_lt_of_le (show t < 8 by omega) (by decide), os ++ [o], by rw [upd_same, List.map_append]; rfl, by rw [List.length_append, lo]; rfl, fun z hz => ?_, ?_, ?_⟩
      · rcases List.mem_append.mp hz with z1 | z1
        · exact hb z z1
        · rw [List.mem_singleton.mp z1]; exact ⟨o0, o1⟩
      · exact Pen.app (hPc.mono (by omega)) (f9.trans fN) hp8 hcD hDp
      · exact Fr.app (f9.trans fN) hD hDp
    · rintro H9 ⟨os, hO, lo, hb, hP9, f9⟩
      have hDp := hP8.neq hD
      have l7 : os.length ≤ 7 := by omega
      have hP9 := hP9.mono (show n + 6 + 2 * m.toNat ≤ n + 20 by omega)
      have fE := fD.trans f9
      clear hS8 hp8 hc8
      refine ⟨_, rfl, D, _, rfl, .inl (SqL.of hO), fun d hd => ?_⟩
      have s10 := same_new (o := .lst (os.map V.int)) hd
      refine ⟨_, rfl, _, rfl, _, rfl, per, skip, d, os, rfl, upd_same, by omega, by omega, by omega, by omega, fun t lt Hs bb ww s11 hL hlt ht => ?_⟩
      have hd11 := s11 _ _ (upd_same (H := H9) (a := d) (o := .lst (os.map V.int)))
      have hO11 := s11 _ _ (s10 _ _ hO)
      have s9s := s10.trans s11
      refine ⟨_, rfl, _, rfl, _, rfl, per, skip, D, os, rfl, .inl hO11, by omega, by omega, by omega, by omega, hb, fun x1 lt1 Ht b1 w1 s12 hN hlt1 st1 => ?_⟩
      have hL1 := hN.least (by omega) hb (by omega)
      obtain ⟨rfl, rfl⟩ := hL.uniq hL1
      have hOt := s12 _ _ hO11
      have hdt := s12 _ _ hd11
      refine ⟨_, _, rfl, _, rfl, _, rfl, .list (os.map PyData.int), .list (os.map PyData.int), .lst (SqL.of hOt) (dp_ints _), .lst (SqL.of hdt) (dp_ints _), PySem.W.ke_shaped_ints _, PySem.W.ke_shaped_ints _, false, by rw [PyData.eqv, eqvAll_ij, decide_eq_true rfl]; rfl, iteF ?_⟩
      obtain ⟨dx1, hx1⟩ := id st1
      have htt := s12 _ _ ht
      have hltt := s12 _ _ hlt
      have hb0 : 0 ≤ bb ∧ bb < per ∧ 0 ≤ ww ∧ ww < per := ⟨hL.2.2.1, hL.2.2.2.1, hL.1, hL.2.1⟩
      have lle : ∀ i ∈ NM.leftSt per bb ww os, i < os.length := fun i hi => List.mem_range.mp (List.mem_filter.mp hi).1
      have lll : (NM.leftSt per bb ww os).length ≤ os.length := by
        have : (NM.leftSt per bb ww os).length ≤ (List.range os.length).length := List.length_filter_le _ _
        rwa [List.length_range] at this
      obtain ⟨g1, g2, g3⟩ := fine_st (b := bb) (w := ww) (l := NM.leftSt per bb ww os) (Nat.lt_of_lt_of_le (show _ < 100 by omega) (by decide +kernel)) (Nat.lt_of_lt_of_le (show _ < 100 by omega) (by decide +kernel)) (by omega) (fun i hi => by have := lle i hi; omega)
      refine ⟨_, rfl, .ref x1, .ref T.a_Stretch, .ref T.a_Stretch, .ref T.a_Stretch, true, rfl, (by constructor), T.ki Ht x1 dx1 _ hx1, T.kk, true, rfl, iteF ?_⟩
      refine ⟨_, rfl, x1, T.a_Stretch, dx1, _, _, rfl, hx1, T.cls, T.na _ (by simp), rfl, _, rfl, x1, T.a_Stretch, dx1, _, _, rfl, hx1, T.cls, T.na _ (by simp), rfl, _, rfl, x1, T.a_Stretch, dx1, _, _, rfl, hx1, T.cls, T.na _ (by simp), rfl, ?_⟩
      refine ⟨(by show 3 ≤ sizeLine; decide), fun c2 kc2 => ?_⟩
      have s13 := same_new (o := .tup [V.int bb, .int ww, .ref lt1]) kc2
      refine ⟨.ref c2, stD bb ww (NM.leftSt per bb ww os), rfl, .dp (dp_st (SqT.of upd_same) (SqT.of (s13 _ _ hlt1))), g1, g2, .inr g3, ?_⟩
      refine ⟨_, rfl, .ref t, stD bb ww (NM.leftSt per bb ww os), rfl, .dp (dp_st (SqT.of (s13 _ _ htt)) (SqT.of (s13 _ _ hltt))), g1, g2, .inr g3, ?_⟩
      generalize (stD bb ww (NM.leftSt per bb ww os)).shown = sh
      refine ⟨rfl, false, ne_strV _, iteF ?_⟩
      have s129 := s12.trans s13
      have hOu := s13 _ _ hOt
      have htu := s13 _ _ htt
      have hltu := s13 _ _ hltt
      have st1u : StAt T.a_Stretch _ x1 (.int bb) (.int ww) (.ref lt1) := ⟨dx1, s13 _ _ hx1⟩
      have hlt1u := s13 _ _ hlt1
      clear ht hlt hlt1 hx1 st1 hOt hdt htt hltt hd11 hO11
      generalize upd Ht c2 (.tup [V.int bb, .int ww, .ref lt1]) = Hu at s13 s129 hOu htu hltu st1u hlt1u ⊢
      refine ⟨_, rfl, _, rfl, D, _, rfl, .inl ⟨SqL.of hOu, fun tp htp => ?_⟩⟩
      have s14 := same_new (o := .tup (os.map V.int)) htp
      refine ⟨_, rfl, per, skip, tp, os, rfl, .inr upd_same, by omega, by omega, by omega, by omega, hb, fun x2 lt2 Hv b2 w2 s15 hN2 hlt2 st2 => ?_⟩
      obtain ⟨rfl, rfl⟩ := hL1.uniq (hN2.least (by omega) hb (by omega))
      have eM : ((NM.leftSt per bb ww os).map fun i : Nat => V.int i) = ((NM.leftSt per bb ww os).map fun i : Nat => (i : Int)).map V.int := by rw [List.map_map]; rfl
      have s1415 := s14.trans s15
      obtain ⟨dx2, hx2⟩ := id st2
      obtain ⟨dx1, hx1⟩ := id st1u
      have hx1v := s1415 _ _ hx1
      have hlt1v := s1415 _ _ hlt1u
      refine ⟨_, rfl, x2, x1, dx2, dx1, _, _, rfl, rfl, hx2, hx1v, x2, x1, bb, ww, bb, ww, _, _, rfl, st2, ⟨dx1, hx1v⟩, .inl ⟨lt2, lt1, _, _, rfl, rfl, SqT.of (by rw [← eM]; exact hlt2), SqT.of (by rw [← eM]; exact hlt1v), ?_⟩⟩
      refine ⟨_, rfl, ?_⟩
      refine ⟨false, by rw [decide_eq_true ⟨rfl, rfl, rfl⟩]; rfl, iteF ?_⟩
      have htv := s1415 _ _ htu
      have hltv := s1415 _ _ hltu
      have hOv := s1415 _ _ hOu
      have s12v := s129.trans s1415
      clear htu hltu hOu hx1 st1u hlt1u st2 hx2 hlt2 hN2
      refine ⟨_, rfl, _, rfl, t, _, _, _, rfl, rfl, SqT.of htv, rfl, _, rfl, t, _, _, _, rfl, rfl, SqT.of htv, rfl, _, rfl, t, _, _, _, rfl, rfl, SqT.of htv, rfl, ?_⟩
      intro x3 dx3 hx3 hd3 hn3
      have t5 := same_new (o := .own x3) hd3
      have hx31 : (upd Hv dx3 (.own x3)) x3 = Option.none := by rw [upd_ne (Ne.symm hn3)]; exact hx3
      have t6 := same_new (o := .ins T.a_Stretch dx3 []) hx31
      refine ⟨x3, dx3, .int bb, .int ww, .ref lt, rfl, upd_same, fun Hw keep st3 => ⟨rfl, ?_⟩⟩
      have s16 : Same Hv Hw := fun y o e => keep y o (ne_of_none e hx3) ((t5.trans t6) _ _ e)
      clear keep hx31 t6 t5
      obtain ⟨dx3', hx3'⟩ := id st3
      have hx1w := s16 _ _ hx1v
      refine ⟨x1, x3, dx1, dx3', _, _, rfl, rfl, hx1w, hx3', x1, x3, bb, ww, bb, ww, _, _, rfl, ⟨dx1, hx1w⟩, st3, .inl ⟨lt1, lt, _, _, rfl, rfl, SqT.of (by rw [← eM]; exact s16 _ _ hlt1v), SqT.of (by rw [← eM]; exact s16 _ _ hltv), ?_⟩⟩
      refine ⟨_, rfl, false, by rw [decide_eq_true ⟨rfl, rfl, rfl⟩]; rfl, iteF ?_⟩
      have hOw := s16 _ _ hOv
      have htw := s16 _ _ htv
      have hltw := s16 _ _ hltv
      have sW := s9s.trans (s12v.trans s16)
      have hPw := hP9.same sW
      have fW := fE.trans (same_fr sW)
      clear hx1v hlt1v htv hltv hOv st3 hx3' hx1w s12v s16 hx3 hd3 s1415 s14 s15 s13 s129
      refine ⟨_, rfl, ?_⟩
      refine ⟨_, _, rfl, rfl, ⟨by decide, by decide, by decide⟩, ?_⟩
      refine ⟨_, _, rfl, rfl, ⟨by decide, by decide, by decide⟩, _, _, rfl, rfl, ?_⟩
      refine ⟨_, _, rfl, rfl, ⟨by decide, by decide, by decide⟩, ?_⟩
      refine ⟨(by show 4 ≤ sizeLine; decide), fun l3 hl3 => ?_⟩
      have hl30 := hPw.neq hl3
      have s17 := same_new (o := .lst [V.int 7, .int (10 ^ (9 : Int).toNat), .int (10 ^ (10 : Int).toNat + 19), .int (3 ^ (20 : Int).toNat)]) hl3
      refine ⟨pn, l3, _, n + 20, rfl, SqL.of upd_same, hl30, (by show 0 < 4; decide), (by show 4 < 1000000; decide), hPw.same s17, by omega, fun y Hx hy hPx fx => ?_⟩
      obtain ⟨many, rfl, m0, m1⟩ : ∃ mm : Int, y = .int mm ∧ 7 ≤ mm ∧ mm ≤ 10000000019 := by
        simp only [List.mem_cons, List.not_mem_nil, or_false] at hy
        rcases hy with e | e | e | e
        · exact ⟨_, e, by decide +kernel, by decide +kernel⟩
        · exact ⟨_, e, by decide +kernel, by decide +kernel⟩
        · exact ⟨_, e, by decide +kernel, by decide +kernel⟩
        · exact ⟨_, e, by decide +kernel, by decide +kernel⟩
      have hOx := fx _ _ hDp (s17 _ _ hOw)
      have nTup : ∀ (a : Addr) (zs : List V), Hw a = some (.tup zs) → a ≠ pn := fun a zs e z => by
        obtain ⟨xs, hxs⟩ := hPw.at
        rw [z, hxs] at e
        cases e
      have htp : t ≠ pn := nTup t _ htw
      have hltp : lt ≠ pn := nTup lt _ hltw
      have htx := fx _ _ htp (s17 _ _ htw)
      have hltx := fx _ _ hltp (s17 _ _ hltw)
      have fX := fW.trans ((same_fr s17).trans fx)
      clear hOw htw hltw hPw fW hl3 hP9 fE s17 fx
      refine ⟨_, rfl, _, rfl, _, _, rfl, rfl, (.inl ⟨by omega, by omega⟩), ?_⟩
      refine ⟨_, rfl, D, rfl, ⟨_, SqL.of hOx⟩, fun L hL0 => lc_list (K := K) (a := D) (xs := os.map V.int) (fun i H' => H' = upd Hx L (.lst (((os.take i).map (· * many)).map V.int))) rfl (fun i H' _ e => by rw [e]; exact SqL.of (same_new hL0 _ _ hOx)) ?_ ?_⟩
      · rintro i v H' hi rfl
        rw [List.getElem?_map] at hi
        obtain ⟨z, hz, rfl⟩ := Option.map_eq_some_iff.mp hi
        have li := (List.getElem?_eq_some_iff.mp hz).1
        have zb := hb z (List.mem_of_getElem? hz)
        refine ⟨rfl, _, rfl, _, rfl, _, _, rfl, rfl, (.inl ⟨by omega, by omega⟩), _, upd_same, ?_, ?_⟩
        · rw [List.length_map, List.length_map]
          exact Nat.lt_of_le_of_lt (List.length_take_le _ _) (Nat.lt_of_lt_of_le (show i < 8 by omega) (by decide))
        · rw [upd_upd, List.take_add_one, hz, List.map_append, List.map_append]
          rfl
      · rintro H' rfl
        rw [List.length_map, List.take_length]
        have s18 := same_new (o := .lst ((os.map (· * many)).map V.int)) hL0
        have lm : (os.map (· * many)).length = os.length := List.length_map ..
        refine ⟨_, rfl, per * many, skip, L, os.map (· * many), rfl, .inl upd_same, by omega, ?_, ?_, s0, ?_, fun x4 lt4 Hy b4 w4 s19 hN4 hlt4 st4 => ?_⟩
        · have := Int.mul_le_mul p0 m0 (by decide) (by omega)
          omega
        · have := Int.mul_le_mul p1 m1 (by omega) (by decide)
          omega
        · exact NM.range_scaled (by omega) hb
        · have hS4 := hN.scale (m := many) (by omega)
          rw [lm] at hN4
          have pm0 : 0 < per * many := Int.mul_pos (by omega) (by omega)
          have rs := NM.range_scaled (m := many) (by omega) hb
          have kn : ((os.length : Nat) : Int) - skip ≤ (((os.map (· * many)).length : Nat) : Int) := by rw [lm]; omega
          obtain ⟨rfl, rfl⟩ := (hS4.least pm0 rs kn).uniq (hN4.least pm0 rs kn)
          rw [NM.left_scale (by omega)] at hlt4
          obtain ⟨dx4, hx4⟩ := id st4
          have s20 := s18.trans s19
          have bm : ∀ z : Int, 0 ≤ z → z < per → (z * many).natAbs < 10 ^ 120 := fun z z0 z1 => by
            have a := Int.mul_le_mul (show z ≤ 14 by omega) m1 (by omega) (by decide)
            have b := Int.mul_nonneg z0 (show 0 ≤ many by omega)
            exact Nat.lt_of_lt_of_le (show _ < 200000000000 by omega) (by decide +kernel)
          obtain ⟨g1, g2, g3⟩ := fine_st (b := bb * many) (w := ww * many) (l := NM.leftSt per bb ww os) (bm _ hb0.1 hb0.2.1) (bm _ hb0.2.2.1 hb0.2.2.2) (by omega) (fun i hi => by have := lle i hi; omega)
          refine ⟨_, rfl, x4, T.a_Stretch, dx4, _, _, rfl, hx4, T.cls, T.na _ (by simp), rfl, _, rfl, x4, T.a_Stretch, dx4, _, _, rfl, hx4, T.cls, T.na _ (by simp), rfl, _, rfl, x4, T.a_Stretch, dx4, _, _, rfl, hx4, T.cls, T.na _ (by simp), rfl, ?_⟩
          refine ⟨(by show 3 ≤ sizeLine; decide), fun c3 kc3 => ?_⟩
          have s21 := same_new (o := .tup [V.int (bb * many), .int (ww * many), .ref lt4]) kc3
          refine ⟨.ref c3, stD (bb * many) (ww * many) (NM.leftSt per bb ww os), rfl, .dp (dp_st (SqT.of upd_same) (SqT.of (s21 _ _ hlt4))), g1, g2, .inr g3, ?_⟩
          have hty := s21 _ _ (s20 _ _ htx)
          have hlty := s21 _ _ (s20 _ _ hltx)
          refine ⟨_, rfl, ?_⟩
          have cm : ∀ z : Int, 0 ≤ z → z < per → CMul z many := fun z z0 z1 => .inl ⟨by omega, by omega⟩
          refine ⟨t, _, _, _, rfl, rfl, SqT.of hty, rfl, _, rfl, _, _, rfl, rfl, cm _ hb0.1 hb0.2.1, ?_⟩
          refine ⟨_, rfl, t, _, _, _, rfl, rfl, SqT.of hty, rfl, _, rfl, _, _, rfl, rfl, cm _ hb0.2.2.1 hb0.2.2.2, ?_⟩
          refine ⟨_, rfl, t, _, _, _, rfl, rfl, SqT.of hty, rfl, ?_⟩
          refine ⟨(by show 3 ≤ sizeLine; decide), fun c4 kc4 => ?_⟩
          have s22 := same_new (o := .tup [V.int (bb * many), .int (ww * many), .ref lt]) kc4
          refine ⟨.ref c4, stD (bb * many) (ww * many) (NM.leftSt per bb ww os), rfl, .dp (dp_st (SqT.of upd_same) (SqT.of (s22 _ _ hlty))), g1, g2, .inr g3, ?_⟩
          generalize (stD (bb * many) (ww * many) (NM.leftSt per bb ww os)).shown = sh
          refine ⟨rfl, ?_⟩
          have sF := s20.trans (s21.trans s22)
          refine Eq.mpr (congrArg (fun b => Q (V.bl b) _) (decide_eq_true rfl)) ?_
          exact k _ ((hPx.same sF).mono (by omega)) (fX.trans (same_fr sF))

def spLaw (K : PySem.W.Frag) : Sp := fun vs H Q _ => ∃ (a : Addr) (ns : List Int), vs = [.ref a] ∧ SqL K H a (ns.map V.int) ∧ ns.length ≤ 63 ∧ ∀ H', Q (.bl true) H'
/-- a Stretch by its parts -/
def StD (C : Addr) (H : Hp) (x : Addr) (d : Int × Int × List Nat) : Prop := ∃ lt dx, H x = some (.ins C dx [("begin", .int d.1), ("width", .int d.2.1), ("left", .ref lt)]) ∧ H lt = some (.tup (d.2.2.map fun i : Nat => V.int i))
theorem StD.same {C x : Addr} {H H' : Hp} {d : Int × Int × List Nat} (h : StD C H x d) (s : Same H H') : StD C H' x d := by
  obtain ⟨lt, dx, h1, h2⟩ := h
  exact ⟨lt, dx, s _ _ h1, s _ _ h2⟩
def dD (d : Int × Int × List Nat) : PyData := stD d.1 d.2.1 d.2.2
def fiveD : List (Int × Int × List Nat) := [(5, 6, []), (9, 2, [3]), (0, 0, [0, 1]), (4, 0, []), (0, 0, [])]
theorem dpAll_snoc {K : PySem.W.Frag} {H : Hp} : ∀ {vs : List V} {ds : List PyData} {v : V} {d : PyData}, DpAll K H vs ds → Dp K H v d → DpAll K H (vs ++ [v]) (ds ++ [d])
  | [], [], _, _, _, h => .cons h .nil
  | _ :: _, _ :: _, _, _, .cons h1 h2, h => .cons h1 (dpAll_snoc h2 h)
/-- all but D -/
noncomputable def hideA (D : Addr) (H : Hp) : Hp := fun b => by classical exact if b = D then Option.none else H b
theorem hide_ne {D b : Addr} {H : Hp} (h : b ≠ D) : hideA D H b = H b := by unfold hideA; rw [if_neg h]
theorem hide_sub {D : Addr} {H : Hp} : Same (hideA D H) H := fun b o e => by
  by_cases h : b = D
  · unfold hideA at e; rw [if_pos h] at e; cases e
  · rw [hide_ne h] at e; exact e
theorem hide_up {D : Addr} {H H' : Hp} (h : ∀ b o, b ≠ D → H b = some o → H' b = some o) : Same (hideA D H) (hideA D H') := fun b o e => by
  by_cases q : b = D
  · unfold hideA at e; rw [if_pos q] at e; cases e
  · rw [hide_ne q] at e ⊢; exact h b o q e
theorem lp_val {H : Hp} {C x lt : Addr} {os : List Int} {k w b w0 b0 : Int} {p : Nat} {l : List Nat} (c : NM.chkSt p os k w0 b0 = true) (he : NM.leftSt p b0 w0 os = l) (p0 : 2 ≤ p) (k0 : k ≤ (os.length : Nat)) (hr : ∀ o ∈ os, 0 ≤ o ∧ o < (p : Int)) (hN : NM.Narrow p os k w b) (hlt : H lt = some (.tup ((NM.leftSt p b w os).map fun i : Nat => V.int i))) (st : StAt C H x (.int b) (.int w) (.ref lt)) : StD C H x (b0, w0, l) := by
  obtain ⟨rfl, rfl⟩ := (NM.chk_least c).uniq (hN.least (by omega) hr k0)
  obtain ⟨dx, hx⟩ := st
  rw [he] at hlt
  exact ⟨lt, dx, hx, hlt⟩
theorem ok_law (T : Txt K mg) : FnG P w K mg base CX0 7 T.a_law (spLaw K) := by
  refine FnG.mk0 T.F_law sc_law (b_law T) (fun vs H Q E h => ?_) (fun cdv A outer s H vs Q E gu hr h => ?_)
  · obtain ⟨a, ns, rfl, _⟩ := h; rfl
  · obtain ⟨a, ns, rfl, hS, hl, k⟩ := h
    refine ⟨_, pss_cons (ps_set (i := 1) sc_law.nd rfl (Or.inl rfl) (pe_call (ok_pen T) (hr.mono (by decide)) rfl T.m_pen T.F_pen.kp (b_pen T) .nil pass0 (pa_cons (pv 0) (pa_nil))))
      (pss_cons (ps_for PassesOwn.never rfl (pi_range1 (by rfl) T.n_range (pa_cons (pe_int) (pa_nil))) (pg_name (i := 2) sc_law.nd rfl (Or.inl rfl)) (pss_one (ps_if (pt_not (pt_val (pe_callG gu (ok_right T) (hr.mono (by decide)) T.F_right.kp rfl T.m_right pass0 (pa_cons (pv 1) (pa_nil))))) (pss_one (ps_ret (pe_bl))) (pss_nil))))
      (pss_cons (ps_set (i := 3) sc_law.nd rfl (Or.inl rfl) (pe_lst (pa_cons (pe_call (ok_least_play T) (hr.mono (by decide)) rfl T.m_least_play T.F_least_play.kp (b_least_play T) .nil pass0 (pa_cons (pe_int) (pa_cons (pe_tup (pa_cons (pe_int) (pa_cons (pe_int) (pa_cons (pe_int) (pa_cons (pe_int) (pa_nil)))))) (pa_cons (pe_int) (pa_nil))))) (pa_cons (pe_call (ok_least_play T) (hr.mono (by decide)) rfl T.m_least_play T.F_least_play.kp (b_least_play T) .nil pass0 (pa_cons (pe_int) (pa_cons (pe_tup (pa_cons (pe_int) (pa_cons (pe_int) (pa_cons (pe_int) (pa_cons (pe_int) (pa_nil)))))) (pa_cons (pe_int) (pa_nil))))) (pa_cons (pe_call (ok_least_play T) (hr.mono (by decide)) rfl T.m_least_play T.F_least_play.kp (b_least_play T) .nil pass0 (pa_cons (pe_int) (pa_cons (pe_tup (pa_cons (pe_int) (pa_cons (pe_int) (pa_nil)))) (pa_cons (pe_int) (pa_nil))))) (pa_cons (pe_call (ok_least_play T) (hr.mono (by decide)) rfl T.m_least_play T.F_least_play.kp (b_least_play T) .nil pass0 (pa_cons (pe_int) (pa_cons (pe_tup (pa_cons (pe_int) (pa_cons (pe_int) (pa_nil)))) (pa_cons (pe_int) (pa_nil))))) (pa_cons (pe_call (ok_least_play T) (hr.mono (by decide)) rfl T.m_least_play T.F_least_play.kp (b_least_play T) .nil pass0 (pa_cons (pe_int) (pa_cons (pe_tup (pa_nil)) (pa_cons (pe_int) (pa_nil))))) (pa_nil))))))))
      (pss_cons (ps_if (pt_cmpR (op_neD hr.units) (pe_lc (own := [("_law_one", 4)]) (g := gName 4) (tt := tYes) rfl sc_law.nd (pi_list (pv 3)) (blkOk_by (own := [("_law_one", 4)]) (N := ["_law_script", "_law_pen_here", "_law_turn", "_law_some", "_law_one", "_law_far"]) (sc := defScope s_law) (by decide +kernel)) (fun _ _ _ _ _ => pg_name (i := 4) sc_law.nd rfl (Or.inl rfl)) (fun _ _ _ _ _ => pts_nil) (fun _ _ _ _ _ => pe_tup (pa_cons (pe_fldC K (by rfl) (pv 4) rfl) (pa_cons (pe_fldC K (by rfl) (pv 4) rfl) (pa_cons (pe_fldC K (by rfl) (pv 4) rfl) (pa_nil)))))) (pe_lst (pa_cons (pe_tup (pa_cons (pe_int) (pa_cons (pe_int) (pa_cons (pe_tup (pa_nil)) (pa_nil))))) (pa_cons (pe_tup (pa_cons (pe_int) (pa_cons (pe_int) (pa_cons (pe_tup (pa_cons (pe_int) (pa_nil))) (pa_nil))))) (pa_cons (pe_tup (pa_cons (pe_int) (pa_cons (pe_int) (pa_cons (pe_tup (pa_cons (pe_int) (pa_cons (pe_int) (pa_nil)))) (pa_nil))))) (pa_cons (pe_tup (pa_cons (pe_int) (pa_cons (pe_int) (pa_cons (pe_tup (pa_nil)) (pa_nil))))) (pa_cons (pe_tup (pa_cons (pe_int) (pa_cons (pe_int) (pa_cons (pe_tup (pa_nil)) (pa_nil))))) (pa_nil))))))) (nomark _)) (pss_one (ps_ret (pe_bl))) (pss_nil))
      (pss_cons (ps_set (i := 5) sc_law.nd rfl (Or.inl rfl) (pe_call (ok_least_play T) (hr.mono (by decide)) rfl T.m_least_play T.F_least_play.kp (b_least_play T) .nil pass0 (pa_cons (pe_op op_pow (pe_int) (pe_int)) (pa_cons (pe_op op_cat (pe_op op_rep (pe_lst (pa_cons (pe_op op_sub (pe_op op_pow (pe_int) (pe_int)) (pe_int)) (pa_nil))) (pe_int)) (pe_op op_rep (pe_lst (pa_cons (pe_int) (pa_nil))) (pe_int))) (pa_cons (pe_int) (pa_nil))))))
      (pss_cons (ps_if (PW.pt (pw_or (pt_cmpR (op_neD hr.units) (pe_tup (pa_cons (pe_fld (pv 5) rfl) (pa_cons (pe_fld (pv 5) rfl) (pa_cons (pe_fld (pv 5) rfl) (pa_nil))))) (pe_tup (pa_cons (pe_op op_sub (pe_op op_pow (pe_int) (pe_int)) (pe_int)) (pa_cons (pe_int) (pa_cons (pe_tup (pa_nil)) (pa_nil))))) (nomark _)) (pw_or1 (pt_not (pt_val (pe_callTy (call_boolI T.fi_bool T.fi_len) (by rfl) T.n_bool (by decide +kernel) (pa_cons (pv 5) (pa_nil)))))))) (pss_one (ps_ret (pe_bl))) (pss_nil))
      (pss_one (ps_ret (pe_and (pe_cmpR (op_eqO (ok_Stretch_eq T) (hr.mono (by decide)) (b_Stretch_eq T) pass0 T.fi_eq T.fn_eq) (pe_makeK0 T.mks (ok_Stretch_init T) (hr.mono (by decide)) rfl T.m_Stretch (kb_Stretch T) pass0 (pk_cons (pe_int) (pk_cons (pe_int) (pk_cons (pe_int) (pk_nil))))) (pe_mkR T.mks ((ok_Stretch_init T).raw (b_Stretch_init T) .nil) (hr.mono (by decide)) pass0 rfl T.m_Stretch (pa_cons (pe_int) (pa_cons (pe_int) (pa_cons (pe_int) (pa_nil))))) (nomark _)) (pe_and (pe_cmpR (op_neO (ok_Stretch_eq T) (hr.mono (by decide)) (b_Stretch_eq T) pass0 T.mro_o T.fi_ne T.fi_eq T.fn_eq) (pe_mkR T.mks ((ok_Stretch_init T).raw (b_Stretch_init T) .nil) (hr.mono (by decide)) pass0 rfl T.m_Stretch (pa_cons (pe_int) (pa_cons (pe_int) (pa_cons (pe_int) (pa_nil))))) (pe_mkR T.mks ((ok_Stretch_init T).raw (b_Stretch_init T) .nil) (hr.mono (by decide)) pass0 rfl T.m_Stretch (pa_cons (pe_int) (pa_cons (pe_int) (pa_cons (pe_int) (pa_nil))))) (nomark _)) (pe_one (pe_cmpR op_eq (pe_fld (pe_mkR T.mks ((ok_Stretch_init T).raw (b_Stretch_init T) .nil) (hr.mono (by decide)) pass0 rfl T.m_Stretch (pa_cons (pe_non) (pa_cons (pe_str) (pa_cons (pe_tup (pa_nil)) (pa_nil))))) rfl) (pe_str) (nomark _)))))))))))), ?_⟩
    refine ⟨_, rfl, a, ns, rfl, hS, hl, fun p H1 s1 hP => ?_⟩
    refine ⟨16, rfl, by decide, by decide, for_range (n := 16) (fun i σ H' => ∃ x2 x3 x4 x5 : Option V, σ = [some (.ref a), some (.ref p), x2, x3, x4, x5] ∧ Pen H' p (30 * i))
      ⟨_, _, _, _, rfl, hP⟩ ?_ ?_⟩
    · rintro i σ H2 hi ⟨x2, x3, x4, x5, rfl, hP2⟩
      refine ⟨_, rfl, p, 30 * i, rfl, hP2, by omega, fun H3 hP3 f3 => ⟨true, rfl, iteF ?_⟩⟩
      exact ⟨_, _, _, _, rfl, hP3.mono (by omega)⟩
    · rintro σ H2 ⟨x2, x3, x4, x5, rfl, hP2⟩
      refine ⟨(by show 4 ≤ sizeLine; decide), fun c1 k1 => ?_⟩
      refine ⟨10, 0, c1, [9, 0, 1, 5], rfl, .inr upd_same, by decide, by decide, by decide, by decide, by decide, fun x1 l1 G1 b1 w1 u1 hN1 hl1 hx1 => ?_⟩
      have hx1 := lp_val (p := 10) (os := [9, 0, 1, 5]) (w0 := 6) (b0 := 5) (l := []) (by decide +kernel) (by decide) (by decide) (by decide) (by decide) hN1 hl1 hx1
      have u1 := (same_new (o := .tup ([9, 0, 1, 5].map V.int)) k1).trans u1
      refine ⟨(by show 4 ≤ sizeLine; decide), fun c2 k2 => ?_⟩
      refine ⟨10, 1, c2, [9, 0, 1, 5], rfl, .inr upd_same, by decide, by decide, by decide, by decide, by decide, fun x2 l2 G2 b2 w2 u2 hN2 hl2 hx2 => ?_⟩
      have hx2 := lp_val (p := 10) (os := [9, 0, 1, 5]) (w0 := 2) (b0 := 9) (l := [3]) (by decide +kernel) (by decide) (by decide) (by decide) (by decide) hN2 hl2 hx2
      have u2 := (same_new (o := .tup ([9, 0, 1, 5].map V.int)) k2).trans u2
      refine ⟨(by show 2 ≤ sizeLine; decide), fun c3 k3 => ?_⟩
      refine ⟨10, 2, c3, [4, 4], rfl, .inr upd_same, by decide, by decide, by decide, by decide, by decide, fun x3 l3 G3 b3 w3 u3 hN3 hl3 hx3 => ?_⟩
      have hx3 := lp_val (p := 10) (os := [4, 4]) (w0 := 0) (b0 := 0) (l := [0, 1]) (by decide +kernel) (by decide) (by decide) (by decide) (by decide) hN3 hl3 hx3
      have u3 := (same_new (o := .tup ([4, 4].map V.int)) k3).trans u3
      refine ⟨(by show 2 ≤ sizeLine; decide), fun c4 k4 => ?_⟩
      refine ⟨10, 1, c4, [4, 4], rfl, .inr upd_same, by decide, by decide, by decide, by decide, by decide, fun x4 l4 G4 b4 w4 u4 hN4 hl4 hx4 => ?_⟩
      have hx4 := lp_val (p := 10) (os := [4, 4]) (w0 := 0) (b0 := 4) (l := []) (by decide +kernel) (by decide) (by decide) (by decide) (by decide) hN4 hl4 hx4
      have u4 := (same_new (o := .tup ([4, 4].map V.int)) k4).trans u4
      refine ⟨(by show 0 ≤ sizeLine; decide), fun c5 k5 => ?_⟩
      refine ⟨2, 0, c5, [], rfl, .inr upd_same, by decide, by decide, by decide, by decide, by decide, fun x5 l5 G5 b5 w5 u5 hN5 hl5 hx5 => ?_⟩
      have hx5 := lp_val (p := 2) (os := []) (w0 := 0) (b0 := 0) (l := []) (by decide +kernel) (by decide) (by decide) (by decide) (by decide) hN5 hl5 hx5
      have u5 := (same_new (o := .tup (([] : List Int).map V.int)) k5).trans u5
      have y1 := hx1.same (u2.trans (u3.trans (u4.trans u5)))
      have y2 := hx2.same (u3.trans (u4.trans u5))
      have y3 := hx3.same (u4.trans u5)
      have y4 := hx4.same u5
      refine ⟨(by show 5 ≤ sizeLine; decide), fun L hL => ?_⟩
      have sL := same_new (o := .lst ([x1, x2, x3, x4, x5].map V.ref)) hL
      have hLL : (upd G5 L (.lst ([x1, x2, x3, x4, x5].map V.ref))) L = some (.lst ([x1, x2, x3, x4, x5].map V.ref)) := upd_same
      have all5 : ∀ (i : Nat) (x : Addr) (d : Int × Int × List Nat), [x1, x2, x3, x4, x5][i]? = some x → fiveD[i]? = some d → StD T.a_Stretch (upd G5 L (.lst [V.ref x1, .ref x2, .ref x3, .ref x4, .ref x5])) x d := by
        intro i x d h1 h2
        match i, h1, h2 with
        | 0, h1, h2 => cases h1; cases h2; exact y1.same sL
        | 1, h1, h2 => cases h1; cases h2; exact y2.same sL
        | 2, h1, h2 => cases h1; cases h2; exact y3.same sL
        | 3, h1, h2 => cases h1; cases h2; exact y4.same sL
        | 4, h1, h2 => cases h1; cases h2; exact hx5.same sL
      have l5 : [x1, x2, x3, x4, x5].length = 5 := rfl
      have hLL : (upd G5 L (.lst [V.ref x1, .ref x2, .ref x3, .ref x4, .ref x5])) L = some (.lst ([x1, x2, x3, x4, x5].map V.ref)) := upd_same
      have sL : Same G5 (upd G5 L (.lst [V.ref x1, .ref x2, .ref x3, .ref x4, .ref x5])) := sL
      have all5 : ∀ (i : Nat) (x : Addr) (d : Int × Int × List Nat), [x1, x2, x3, x4, x5][i]? = some x → fiveD[i]? = some d → StD T.a_Stretch (upd G5 L (.lst [V.ref x1, .ref x2, .ref x3, .ref x4, .ref x5])) x d := all5
      generalize upd G5 L (.lst [V.ref x1, .ref x2, .ref x3, .ref x4, .ref x5]) = HL at sL hLL all5 ⊢
      generalize [x1, x2, x3, x4, x5] = as at hLL all5 l5
      refine ⟨_, rfl, L, rfl, ⟨_, SqL.of hLL⟩, fun D hD => lc_list (K := K) (a := L) (xs := as.map V.ref) (fun i H' => Same HL H' ∧ ∃ vs, H' D = some (.lst vs) ∧ vs.length = i ∧ DpAll K (hideA D H') vs ((fiveD.take i).map dD)) ⟨same_new hD, [], upd_same, rfl, .nil⟩ (fun i H' _ e => SqL.of (e.1 _ _ hLL)) ?_ ?_⟩
      · rintro i v H' hi ⟨s6, vs, hvs, lvs, dvs⟩
        rw [List.getElem?_map] at hi
        obtain ⟨x, hx, rfl⟩ := Option.map_eq_some_iff.mp hi
        have li : i < 5 := by rw [← l5]; exact (List.getElem?_eq_some_iff.mp hx).1
        have eD := List.getElem?_eq_getElem (show i < fiveD.length from li)
        obtain ⟨lt, dx, q1, q2⟩ := all5 i x _ hx eD
        have q1 := s6 _ _ q1
        have q2 := s6 _ _ q2
        refine ⟨rfl, _, rfl, x, T.a_Stretch, dx, _, _, rfl, q1, T.cls, T.na _ (by simp), rfl, _, rfl, x, T.a_Stretch, dx, _, _, rfl, q1, T.cls, T.na _ (by simp), rfl, _, rfl, x, T.a_Stretch, dx, _, _, rfl, q1, T.cls, T.na _ (by simp), rfl, ?_⟩
        refine ⟨(by show 3 ≤ sizeLine; decide), fun c kc => ?_⟩
        have s7 := same_new (o := .tup [V.int (fiveD[i]).1, .int (fiveD[i]).2.1, .ref lt]) kc
        refine ⟨_, s7 _ _ hvs, by rw [lvs]; exact Nat.lt_of_lt_of_le li (by decide), ?_⟩
        have cD : c ≠ D := fun z => by rw [z, hvs] at kc; cases kc
        have lD : lt ≠ D := fun z => by rw [z, hvs] at q2; cases q2
        refine ⟨same_up (s6.trans s7) hD, vs ++ [.ref c], upd_same, by rw [List.length_append, lvs]; rfl, ?_⟩
        rw [List.take_add_one, eD, List.map_append]
        refine dpAll_snoc (dp_sameAll (hide_up fun b o n e => by rw [upd_ne n]; exact s7 _ _ e) _ _ dvs) ?_
        refine dp_st (lt := lt) (SqT.of ?_) (SqT.of ?_)
        · rw [hide_ne cD, upd_ne cD]; exact upd_same
        · rw [hide_ne lD, upd_ne lD]; exact s7 _ _ q2
      · rintro H' ⟨s6, vs, hvs, lvs, dvs⟩
        rw [List.length_map, l5] at lvs dvs
        have dvs := dp_sameAll hide_sub _ _ dvs
        refine ⟨(by show 0 ≤ sizeLine; decide), fun t1 ht1 => ?_⟩
        have v1 := same_new (o := .tup []) ht1
        have a1 : (upd H' t1 (.tup [])) t1 = _ := upd_same
        generalize upd H' t1 (.tup []) = J1 at v1 a1 ⊢
        refine ⟨(by show 3 ≤ sizeLine; decide), fun t2 ht2 => ?_⟩
        have v2 := same_new (o := .tup [.int 5, .int 6, .ref t1]) ht2
        have a2 : (upd J1 t2 (.tup [.int 5, .int 6, .ref t1])) t2 = _ := upd_same
        generalize upd J1 t2 (.tup [.int 5, .int 6, .ref t1]) = J2 at v2 a2 ⊢
        refine ⟨(by show 1 ≤ sizeLine; decide), fun t3 ht3 => ?_⟩
        have v3 := same_new (o := .tup [.int 3]) ht3
        have a3 : (upd J2 t3 (.tup [.int 3])) t3 = _ := upd_same
        generalize upd J2 t3 (.tup [.int 3]) = J3 at v3 a3 ⊢
        refine ⟨(by show 3 ≤ sizeLine; decide), fun t4 ht4 => ?_⟩
        have v4 := same_new (o := .tup [.int 9, .int 2, .ref t3]) ht4
        have a4 : (upd J3 t4 (.tup [.int 9, .int 2, .ref t3])) t4 = _ := upd_same
        generalize upd J3 t4 (.tup [.int 9, .int 2, .ref t3]) = J4 at v4 a4 ⊢
        refine ⟨(by show 2 ≤ sizeLine; decide), fun t5 ht5 => ?_⟩
        have v5 := same_new (o := .tup [.int 0, .int 1]) ht5
        have a5 : (upd J4 t5 (.tup [.int 0, .int 1])) t5 = _ := upd_same
        generalize upd J4 t5 (.tup [.int 0, .int 1]) = J5 at v5 a5 ⊢
        refine ⟨(by show 3 ≤ sizeLine; decide), fun t6 ht6 => ?_⟩
        have v6 := same_new (o := .tup [.int 0, .int 0, .ref t5]) ht6
        have a6 : (upd J5 t6 (.tup [.int 0, .int 0, .ref t5])) t6 = _ := upd_same
        generalize upd J5 t6 (.tup [.int 0, .int 0, .ref t5]) = J6 at v6 a6 ⊢
        refine ⟨(by show 0 ≤ sizeLine; decide), fun t7 ht7 => ?_⟩
        have v7 := same_new (o := .tup []) ht7
        have a7 : (upd J6 t7 (.tup [])) t7 = _ := upd_same
        generalize upd J6 t7 (.tup []) = J7 at v7 a7 ⊢
        refine ⟨(by show 3 ≤ sizeLine; decide), fun t8 ht8 => ?_⟩
        have v8 := same_new (o := .tup [.int 4, .int 0, .ref t7]) ht8
        have a8 : (upd J7 t8 (.tup [.int 4, .int 0, .ref t7])) t8 = _ := upd_same
        generalize upd J7 t8 (.tup [.int 4, .int 0, .ref t7]) = J8 at v8 a8 ⊢
        refine ⟨(by show 0 ≤ sizeLine; decide), fun t9 ht9 => ?_⟩
        have v9 := same_new (o := .tup []) ht9
        have a9 : (upd J8 t9 (.tup [])) t9 = _ := upd_same
        generalize upd J8 t9 (.tup []) = J9 at v9 a9 ⊢
        refine ⟨(by show 3 ≤ sizeLine; decide), fun t10 ht10 => ?_⟩
        have v10 := same_new (o := .tup [.int 0, .int 0, .ref t9]) ht10
        have a10 : (upd J9 t10 (.tup [.int 0, .int 0, .ref t9])) t10 = _ := upd_same
        generalize upd J9 t10 (.tup [.int 0, .int 0, .ref t9]) = J10 at v10 a10 ⊢
        refine ⟨(by show 5 ≤ sizeLine; decide), fun l2 hl2 => ?_⟩
        have v11 := same_new (o := .lst [.ref t2, .ref t4, .ref t6, .ref t8, .ref t10]) hl2
        have a11 : (upd J10 l2 (.lst [.ref t2, .ref t4, .ref t6, .ref t8, .ref t10])) l2 = _ := upd_same
        generalize upd J10 l2 (.lst [.ref t2, .ref t4, .ref t6, .ref t8, .ref t10]) = J11 at v11 a11 ⊢
        have w10 := v11
        have w9 := v10.trans w10
        have w8 := v9.trans w9
        have w7 := v8.trans w8
        have w6 := v7.trans w7
        have w5 := v6.trans w6
        have w4 := v5.trans w5
        have w3 := v4.trans w4
        have w2 := v3.trans w3
        have w1 := v2.trans w2
        have w0 := v1.trans w1
        have e1 : Dp K J11 (.ref t2) (dD (5, 6, [])) := dp_st (SqT.of (w2 _ _ a2)) (SqT.of (w1 _ _ a1))
        have e2 : Dp K J11 (.ref t4) (dD (9, 2, [3])) := dp_st (SqT.of (w4 _ _ a4)) (SqT.of (w3 _ _ a3))
        have e3 : Dp K J11 (.ref t6) (dD (0, 0, [0, 1])) := dp_st (SqT.of (w6 _ _ a6)) (SqT.of (w5 _ _ a5))
        have e4 : Dp K J11 (.ref t8) (dD (4, 0, [])) := dp_st (SqT.of (w8 _ _ a8)) (SqT.of (w7 _ _ a7))
        have e5 : Dp K J11 (.ref t10) (dD (0, 0, [])) := dp_st (SqT.of (w10 _ _ a10)) (SqT.of (w9 _ _ a9))
        refine ⟨.list (fiveD.map dD), .list (fiveD.map dD), .lst (SqL.of (w0 _ _ hvs)) (dp_sameAll w0 _ _ dvs), .lst (SqL.of a11) (.cons e1 (.cons e2 (.cons e3 (.cons e4 (.cons e5 .nil))))), by decide +kernel, by decide +kernel, false, by decide +kernel, iteF ?_⟩
        refine ⟨_, _, rfl, rfl, ⟨by decide, by decide, by decide⟩, ?_⟩
        refine ⟨_, _, rfl, rfl, ⟨by decide, by decide, by decide⟩, _, _, rfl, rfl, (by show 1 ≤ sizeLine; decide), fun r1 hr1 => ?_⟩
        refine ⟨r1, 30, _, rfl, rfl, upd_same, by decide, by decide, (by show 30 ≤ sizeLine; decide), fun r2 hr2 => ?_⟩
        have s1r := same_new (o := .lst [V.int ((10 : Int) ^ Int.toNat 12 - 1)]) hr1
        have s2r := same_new (o := .lst (List.replicate (Int.toNat 30) [V.int ((10 : Int) ^ Int.toNat 12 - 1)]).flatten) hr2
        have c2r : (upd (upd J11 r1 (.lst [V.int ((10 : Int) ^ Int.toNat 12 - 1)])) r2 (.lst (List.replicate (Int.toNat 30) [V.int ((10 : Int) ^ Int.toNat 12 - 1)]).flatten)) r2 = some (.lst (List.replicate (Int.toNat 30) [V.int ((10 : Int) ^ Int.toNat 12 - 1)]).flatten) := upd_same
        refine ⟨(by show 1 ≤ sizeLine; decide), fun r3 hr3 => ?_⟩
        refine ⟨r3, 30, _, rfl, rfl, upd_same, by decide, by decide, (by show 30 ≤ sizeLine; decide), fun r4 hr4 => ?_⟩
        refine ⟨r2, r4, _, _, rfl, rfl, (same_new hr4) _ _ ((same_new hr3) _ _ c2r), upd_same, (by show 60 ≤ sizeLine; decide), fun r5 hr5 => ?_⟩
        have eF : (List.replicate (Int.toNat 30) [V.int ((10 : Int) ^ Int.toNat 12 - 1)]).flatten ++ (List.replicate (Int.toNat 30) [V.int 0]).flatten = NM.farOs.map V.int := by
          have e : ((10 : Int) ^ Int.toNat 12 - 1) = 999999999999 := by decide +kernel
          rw [e]
          rfl
        have eP : (10 : Int) ^ Int.toNat 12 = 1000000000000 := by decide +kernel
        refine ⟨_, 0, r5, NM.farOs, rfl, .inl (upd_same.trans (congrArg (fun z => some (HO.lst z)) eF)), by decide +kernel, by decide +kernel, by decide +kernel, by decide, (fun o ho => by rw [eP]; exact NM.far_in o ho), fun y lt Hz bz wz sz hN hlt st => ?_⟩
        rw [eP] at hN hlt
        obtain ⟨rfl, rfl⟩ := NM.far_least.uniq (hN.least (by decide) NM.far_in (by omega))
        rw [NM.far_left] at hlt
        obtain ⟨dy, hy⟩ := id st
        refine ⟨_, rfl, y, T.a_Stretch, dy, _, _, rfl, hy, T.cls, T.na _ (by simp), rfl, _, rfl, y, T.a_Stretch, dy, _, _, rfl, hy, T.cls, T.na _ (by simp), rfl, _, rfl, y, T.a_Stretch, dy, _, _, rfl, hy, T.cls, T.na _ (by simp), rfl, ?_⟩
        refine ⟨(by show 3 ≤ sizeLine; decide), fun f1 kf1 => ?_⟩
        have z1 := same_new (o := .tup [V.int 999999999999, .int 1, .ref lt]) kf1
        have b1 : (upd Hz f1 (.tup [V.int 999999999999, .int 1, .ref lt])) f1 = _ := upd_same
        generalize upd Hz f1 (.tup [V.int 999999999999, .int 1, .ref lt]) = Z1 at z1 b1 ⊢
        refine ⟨_, _, rfl, rfl, ⟨by decide, by decide, by decide⟩, _, _, rfl, rfl, ?_⟩
        refine ⟨(by show 0 ≤ sizeLine; decide), fun f2 kf2 => ?_⟩
        have z2 := same_new (o := .tup []) kf2
        have b2 : (upd Z1 f2 (.tup [])) f2 = _ := upd_same
        generalize upd Z1 f2 (.tup []) = Z2 at z2 b2 ⊢
        refine ⟨(by show 3 ≤ sizeLine; decide), fun f3 kf3 => ?_⟩
        have z3 := same_new (o := .tup [V.int ((10 : Int) ^ Int.toNat 12 - 1), .int 1, .ref f2]) kf3
        have b3 : (upd Z2 f3 (.tup [V.int ((10 : Int) ^ Int.toNat 12 - 1), .int 1, .ref f2])) f3 = some (.tup [V.int 999999999999, .int 1, .ref f2]) := upd_same.trans (congrArg (fun z => some (HO.tup [V.int (z - 1), .int 1, .ref f2])) eP)
        refine ⟨stD 999999999999 1 [], stD 999999999999 1 [], dp_st (SqT.of ((z2.trans z3) _ _ b1)) (SqT.of ((z1.trans (z2.trans z3)) _ _ hlt)), dp_st (SqT.of b3) (SqT.of (z3 _ _ b2)), shaped_st, shaped_st, false, by decide +kernel, iteF ?_⟩
        have hyz := (z1.trans (z2.trans z3)) _ _ hy
        refine ⟨_, rfl, y, dy, _, rfl, hyz, true, rfl, iteF ?_⟩
        refine ⟨rfl, rfl, fun q1 d1 hq1 hd1 hn1 => ?_⟩
        refine ⟨q1, d1, .int 1, .int 2, .int 3, rfl, upd_same, fun Y1 kp1 sq1 => ⟨rfl, ?_⟩⟩
        intro q2 d2 hq2 hd2 hn2
        have n2 : (upd Y1 d2 (.own q2)) q2 = Option.none := by rw [upd_ne (Ne.symm hn2)]; exact hq2
        refine ⟨q2, d2, .int 1, .int 2, .int 3, rfl, upd_same, fun Y2 kp2 sq2 => ⟨rfl, ?_⟩⟩
        have sm2 : Same Y1 Y2 := fun y o e => kp2 y o (ne_of_none e hq2) (((same_new hd2).trans (same_new n2)) _ _ e)
        obtain ⟨e1, he1⟩ := id sq1
        obtain ⟨e2, he2⟩ := id sq2
        have he1 := sm2 _ _ he1
        refine ⟨q1, q2, e1, e2, _, _, rfl, rfl, he1, he2, q1, q2, 1, 2, 1, 2, _, _, rfl, ⟨e1, he1⟩, sq2, .inr ⟨3, 3, rfl, rfl, ?_⟩⟩
        refine ⟨_, rfl, true, rfl, iteT ?_⟩
        intro q3 d3 hq3 hd3 hn3
        have n3 : (upd Y2 d3 (.own q3)) q3 = Option.none := by rw [upd_ne (Ne.symm hn3)]; exact hq3
        refine ⟨q3, d3, .int 1, .int 2, .int 3, rfl, upd_same, fun Y3 kp3 sq3 => ⟨rfl, ?_⟩⟩
        intro q4 d4 hq4 hd4 hn4
        have n4 : (upd Y3 d4 (.own q4)) q4 = Option.none := by rw [upd_ne (Ne.symm hn4)]; exact hq4
        refine ⟨q4, d4, .int 1, .int 2, .int 4, rfl, upd_same, fun Y4 kp4 sq4 => ⟨rfl, ?_⟩⟩
        have sm4 : Same Y3 Y4 := fun y o e => kp4 y o (ne_of_none e hq4) (((same_new hd4).trans (same_new n4)) _ _ e)
        obtain ⟨e3, he3⟩ := id sq3
        obtain ⟨e4, he4⟩ := id sq4
        have he3 := sm4 _ _ he3
        refine ⟨q3, q4, e3, e4, _, _, rfl, rfl, he3, he4, q3, q4, 1, 2, 1, 2, _, _, rfl, ⟨e3, he3⟩, sq4, .inr ⟨3, 4, rfl, rfl, ?_⟩⟩
        refine ⟨_, rfl, true, rfl, iteT ?_⟩
        refine ⟨(by show 0 ≤ sizeLine; decide), fun f5 kf5 => ?_⟩
        intro q5 d5 hq5 hd5 hn5
        refine ⟨q5, d5, .non, .str "x", .ref f5, rfl, upd_same, fun Y5 kp5 ⟨e5, he5⟩ => ⟨rfl, ?_⟩⟩
        refine ⟨q5, T.a_Stretch, e5, _, _, rfl, he5, T.cls, T.na _ (by simp), rfl, ?_⟩
        refine ⟨rfl, ?_⟩
        refine Eq.mpr (congrArg (fun b => Q (V.bl b) _) (decide_eq_true rfl)) ?_
        exact k _


end
theorem all_mk {l : PySem.W.OpenLaw} {w : World} {K : PySem.W.Frag} {h : Heap} {mg : Str → Option Value} {fa : Addr} (X : K.In h) (G : h.Ns mainGlobals mg) (hfa : mg "law" = some (.ref fa)) (tabs : ∀ x ∈ ([] : List Str), TabOf K mg h x)
    {f_is_whole : Addr} {od_is_whole an_is_whole : Option Addr} {sl_is_whole : Array (Option Value)} {oc_is_whole kV_is_whole dc_is_whole pm_is_whole cd_is_whole ct_is_whole : Value}
    {f_is_from : Addr} {od_is_from an_is_from : Option Addr} {sl_is_from : Array (Option Value)} {oc_is_from kV_is_from dc_is_from pm_is_from cd_is_from ct_is_from : Value}
    {f_is_between : Addr} {od_is_between an_is_between : Option Addr} {sl_is_between : Array (Option Value)} {oc_is_between kV_is_between dc_is_between pm_is_between cd_is_between ct_is_between : Value}
    {f_need_from : Addr} {od_need_from an_need_from : Option Addr} {sl_need_from : Array (Option Value)} {oc_need_from kV_need_from dc_need_from pm_need_from cd_need_from ct_need_from : Value}
    {f_is_period : Addr} {od_is_period an_is_period : Option Addr} {sl_is_period : Array (Option Value)} {oc_is_period kV_is_period dc_is_period pm_is_period cd_is_period ct_is_period : Value}
    {f_need_items : Addr} {od_need_items an_need_items : Option Addr} {sl_need_items : Array (Option Value)} {oc_need_items kV_need_items dc_need_items pm_need_items cd_need_items ct_need_items : Value}
    {f_narrowest : Addr} {od_narrowest an_narrowest : Option Addr} {sl_narrowest : Array (Option Value)} {oc_narrowest kV_narrowest dc_narrowest pm_narrowest cd_narrowest ct_narrowest : Value}
    {f_stretch_of : Addr} {od_stretch_of an_stretch_of : Option Addr} {sl_stretch_of : Array (Option Value)} {oc_stretch_of kV_stretch_of dc_stretch_of pm_stretch_of cd_stretch_of ct_stretch_of : Value}
    {f_least_play : Addr} {od_least_play an_least_play : Option Addr} {sl_least_play : Array (Option Value)} {oc_least_play kV_least_play dc_least_play pm_least_play cd_least_play ct_least_play : Value}
    {f_pen : Addr} {od_pen an_pen : Option Addr} {sl_pen : Array (Option Value)} {oc_pen kV_pen dc_pen pm_pen cd_pen ct_pen : Value}
    {f_draw : Addr} {od_draw an_draw : Option Addr} {sl_draw : Array (Option Value)} {oc_draw kV_draw dc_draw pm_draw cd_draw ct_draw : Value}
    {f_pick : Addr} {od_pick an_pick : Option Addr} {sl_pick : Array (Option Value)} {oc_pick kV_pick dc_pick pm_pick cd_pick ct_pick : Value}
    {f_stretch : Addr} {od_stretch an_stretch : Option Addr} {sl_stretch : Array (Option Value)} {oc_stretch kV_stretch dc_stretch pm_stretch cd_stretch ct_stretch : Value}
    {f_right : Addr} {od_right an_right : Option Addr} {sl_right : Array (Option Value)} {oc_right kV_right dc_right pm_right cd_right ct_right : Value}
    {f_law : Addr} {od_law an_law : Option Addr} {sl_law : Array (Option Value)} {oc_law kV_law dc_law pm_law cd_law ct_law : Value}
    {f_Stretch_init : Addr} {od_Stretch_init an_Stretch_init : Option Addr} {sl_Stretch_init : Array (Option Value)} {oc_Stretch_init kV_Stretch_init dc_Stretch_init pm_Stretch_init cd_Stretch_init ct_Stretch_init : Value}
    {f_Stretch_eq : Addr} {od_Stretch_eq an_Stretch_eq : Option Addr} {sl_Stretch_eq : Array (Option Value)} {oc_Stretch_eq kV_Stretch_eq dc_Stretch_eq pm_Stretch_eq cd_Stretch_eq ct_Stretch_eq : Value}
    {C_Stretch : Addr} {tM tI : Tok}
    (a_is_whole : PySem.W.nsIn K mainGlobals "is_whole" = some (some (.ref f_is_whole)))
    (l_is_whole : K.lookup f_is_whole = some ⟨oc_is_whole, od_is_whole, .func (PySem.W.fnOf "is_whole" "is_whole" (defArgs s_is_whole) (defBody s_is_whole) (defScope s_is_whole) .none kV_is_whole dc_is_whole pm_is_whole an_is_whole cd_is_whole ct_is_whole), sl_is_whole⟩)
    (c_is_whole : PySem.W.codeIn K cd_is_whole "is_whole" = true)
    (k_is_whole : PySem.W.keepIn K (.ref f_is_whole) = true)
    (a_is_from : PySem.W.nsIn K mainGlobals "is_from" = some (some (.ref f_is_from)))
    (l_is_from : K.lookup f_is_from = some ⟨oc_is_from, od_is_from, .func (PySem.W.fnOf "is_from" "is_from" (defArgs s_is_from) (defBody s_is_from) (defScope s_is_from) .none kV_is_from dc_is_from pm_is_from an_is_from cd_is_from ct_is_from), sl_is_from⟩)
    (c_is_from : PySem.W.codeIn K cd_is_from "is_from" = true)
    (k_is_from : PySem.W.keepIn K (.ref f_is_from) = true)
    (a_is_between : PySem.W.nsIn K mainGlobals "is_between" = some (some (.ref f_is_between)))
    (l_is_between : K.lookup f_is_between = some ⟨oc_is_between, od_is_between, .func (PySem.W.fnOf "is_between" "is_between" (defArgs s_is_between) (defBody s_is_between) (defScope s_is_between) .none kV_is_between dc_is_between pm_is_between an_is_between cd_is_between ct_is_between), sl_is_between⟩)
    (c_is_between : PySem.W.codeIn K cd_is_between "is_between" = true)
    (k_is_between : PySem.W.keepIn K (.ref f_is_between) = true)
    (a_need_from : PySem.W.nsIn K mainGlobals "need_from" = some (some (.ref f_need_from)))
    (l_need_from : K.lookup f_need_from = some ⟨oc_need_from, od_need_from, .func (PySem.W.fnOf "need_from" "need_from" (defArgs s_need_from) (defBody s_need_from) (defScope s_need_from) .none kV_need_from dc_need_from pm_need_from an_need_from cd_need_from ct_need_from), sl_need_from⟩)
    (c_need_from : PySem.W.codeIn K cd_need_from "need_from" = true)
    (k_need_from : PySem.W.keepIn K (.ref f_need_from) = true)
    (a_is_period : PySem.W.nsIn K mainGlobals "is_period" = some (some (.ref f_is_period)))
    (l_is_period : K.lookup f_is_period = some ⟨oc_is_period, od_is_period, .func (PySem.W.fnOf "is_period" "is_period" (defArgs s_is_period) (defBody s_is_period) (defScope s_is_period) .none kV_is_period dc_is_period pm_is_period an_is_period cd_is_period ct_is_period), sl_is_period⟩)
    (c_is_period : PySem.W.codeIn K cd_is_period "is_period" = true)
    (k_is_period : PySem.W.keepIn K (.ref f_is_period) = true)
    (a_need_items : PySem.W.nsIn K mainGlobals "need_items" = some (some (.ref f_need_items)))
    (l_need_items : K.lookup f_need_items = some ⟨oc_need_items, od_need_items, .func (PySem.W.fnOf "need_items" "need_items" (defArgs s_need_items) (defBody s_need_items) (defScope s_need_items) .none kV_need_items dc_need_items pm_need_items an_need_items cd_need_items ct_need_items), sl_need_items⟩)
    (c_need_items : PySem.W.codeIn K cd_need_items "need_items" = true)
    (k_need_items : PySem.W.keepIn K (.ref f_need_items) = true)
    (a_narrowest : PySem.W.nsIn K mainGlobals "narrowest" = some (some (.ref f_narrowest)))
    (l_narrowest : K.lookup f_narrowest = some ⟨oc_narrowest, od_narrowest, .func (PySem.W.fnOf "narrowest" "narrowest" (defArgs s_narrowest) (defBody s_narrowest) (defScope s_narrowest) .none kV_narrowest dc_narrowest pm_narrowest an_narrowest cd_narrowest ct_narrowest), sl_narrowest⟩)
    (c_narrowest : PySem.W.codeIn K cd_narrowest "narrowest" = true)
    (k_narrowest : PySem.W.keepIn K (.ref f_narrowest) = true)
    (a_stretch_of : PySem.W.nsIn K mainGlobals "stretch_of" = some (some (.ref f_stretch_of)))
    (l_stretch_of : K.lookup f_stretch_of = some ⟨oc_stretch_of, od_stretch_of, .func (PySem.W.fnOf "stretch_of" "stretch_of" (defArgs s_stretch_of) (defBody s_stretch_of) (defScope s_stretch_of) .none kV_stretch_of dc_stretch_of pm_stretch_of an_stretch_of cd_stretch_of ct_stretch_of), sl_stretch_of⟩)
    (c_stretch_of : PySem.W.codeIn K cd_stretch_of "stretch_of" = true)
    (k_stretch_of : PySem.W.keepIn K (.ref f_stretch_of) = true)
    (a_least_play : PySem.W.nsIn K mainGlobals "least_play" = some (some (.ref f_least_play)))
    (l_least_play : K.lookup f_least_play = some ⟨oc_least_play, od_least_play, .func (PySem.W.fnOf "least_play" "least_play" (defArgs s_least_play) (defBody s_least_play) (defScope s_least_play) .none kV_least_play dc_least_play pm_least_play an_least_play cd_least_play ct_least_play), sl_least_play⟩)
    (c_least_play : PySem.W.codeIn K cd_least_play "least_play" = true)
    (k_least_play : PySem.W.keepIn K (.ref f_least_play) = true)
    (a_pen : PySem.W.nsIn K mainGlobals "_law_pen" = some (some (.ref f_pen)))
    (l_pen : K.lookup f_pen = some ⟨oc_pen, od_pen, .func (PySem.W.fnOf "_law_pen" "_law_pen" (defArgs s_pen) (defBody s_pen) (defScope s_pen) .none kV_pen dc_pen pm_pen an_pen cd_pen ct_pen), sl_pen⟩)
    (c_pen : PySem.W.codeIn K cd_pen "_law_pen" = true)
    (k_pen : PySem.W.keepIn K (.ref f_pen) = true)
    (a_draw : PySem.W.nsIn K mainGlobals "_law_draw" = some (some (.ref f_draw)))
    (l_draw : K.lookup f_draw = some ⟨oc_draw, od_draw, .func (PySem.W.fnOf "_law_draw" "_law_draw" (defArgs s_draw) (defBody s_draw) (defScope s_draw) .none kV_draw dc_draw pm_draw an_draw cd_draw ct_draw), sl_draw⟩)
    (c_draw : PySem.W.codeIn K cd_draw "_law_draw" = true)
    (k_draw : PySem.W.keepIn K (.ref f_draw) = true)
    (a_pick : PySem.W.nsIn K mainGlobals "_law_pick" = some (some (.ref f_pick)))
    (l_pick : K.lookup f_pick = some ⟨oc_pick, od_pick, .func (PySem.W.fnOf "_law_pick" "_law_pick" (defArgs s_pick) (defBody s_pick) (defScope s_pick) .none kV_pick dc_pick pm_pick an_pick cd_pick ct_pick), sl_pick⟩)
    (c_pick : PySem.W.codeIn K cd_pick "_law_pick" = true)
    (k_pick : PySem.W.keepIn K (.ref f_pick) = true)
    (a_stretch : PySem.W.nsIn K mainGlobals "_law_stretch" = some (some (.ref f_stretch)))
    (l_stretch : K.lookup f_stretch = some ⟨oc_stretch, od_stretch, .func (PySem.W.fnOf "_law_stretch" "_law_stretch" (defArgs s_stretch) (defBody s_stretch) (defScope s_stretch) .none kV_stretch dc_stretch pm_stretch an_stretch cd_stretch ct_stretch), sl_stretch⟩)
    (c_stretch : PySem.W.codeIn K cd_stretch "_law_stretch" = true)
    (k_stretch : PySem.W.keepIn K (.ref f_stretch) = true)
    (a_right : PySem.W.nsIn K mainGlobals "_law_right" = some (some (.ref f_right)))
    (l_right : K.lookup f_right = some ⟨oc_right, od_right, .func (PySem.W.fnOf "_law_right" "_law_right" (defArgs s_right) (defBody s_right) (defScope s_right) .none kV_right dc_right pm_right an_right cd_right ct_right), sl_right⟩)
    (c_right : PySem.W.codeIn K cd_right "_law_right" = true)
    (k_right : PySem.W.keepIn K (.ref f_right) = true)
    (a_law : PySem.W.nsIn K mainGlobals "law" = some (some (.ref f_law)))
    (l_law : K.lookup f_law = some ⟨oc_law, od_law, .func (PySem.W.fnOf "law" "law" (defArgs s_law) (defBody s_law) (defScope s_law) .none kV_law dc_law pm_law an_law cd_law ct_law), sl_law⟩)
    (c_law : PySem.W.codeIn K cd_law "law" = true)
    (k_law : PySem.W.keepIn K (.ref f_law) = true)
    (a_Stretch_init : PySem.W.findIn K (.ref C_Stretch) "__init__" = some (some (.ref f_Stretch_init)))
    (l_Stretch_init : K.lookup f_Stretch_init = some ⟨oc_Stretch_init, od_Stretch_init, .func (PySem.W.fnOf "__init__" "Stretch.__init__" (defArgs s_Stretch_init) (defBody s_Stretch_init) (defScope s_Stretch_init) .none kV_Stretch_init dc_Stretch_init pm_Stretch_init an_Stretch_init cd_Stretch_init ct_Stretch_init), sl_Stretch_init⟩)
    (c_Stretch_init : PySem.W.codeIn K cd_Stretch_init "Stretch.__init__" = true)
    (k_Stretch_init : PySem.W.keepIn K (.ref f_Stretch_init) = true)
    (a_Stretch_eq : PySem.W.findIn K (.ref C_Stretch) "__eq__" = some (some (.ref f_Stretch_eq)))
    (l_Stretch_eq : K.lookup f_Stretch_eq = some ⟨oc_Stretch_eq, od_Stretch_eq, .func (PySem.W.fnOf "__eq__" "Stretch.__eq__" (defArgs s_Stretch_eq) (defBody s_Stretch_eq) (defScope s_Stretch_eq) .none kV_Stretch_eq dc_Stretch_eq pm_Stretch_eq an_Stretch_eq cd_Stretch_eq ct_Stretch_eq), sl_Stretch_eq⟩)
    (c_Stretch_eq : PySem.W.codeIn K cd_Stretch_eq "Stretch.__eq__" = true)
    (k_Stretch_eq : PySem.W.keepIn K (.ref f_Stretch_eq) = true)
    (z_ValueError : PySem.W.nsIn K mainGlobals "ValueError" = some none)
    (z_abs : PySem.W.nsIn K mainGlobals "abs" = some none)
    (z_bool : PySem.W.nsIn K mainGlobals "bool" = some none)
    (z_enumerate : PySem.W.nsIn K mainGlobals "enumerate" = some none)
    (z_int : PySem.W.nsIn K mainGlobals "int" = some none)
    (z_isinstance : PySem.W.nsIn K mainGlobals "isinstance" = some none)
    (z_len : PySem.W.nsIn K mainGlobals "len" = some none)
    (z_list : PySem.W.nsIn K mainGlobals "list" = some none)
    (z_min : PySem.W.nsIn K mainGlobals "min" = some none)
    (z_range : PySem.W.nsIn K mainGlobals "range" = some none)
    (z_repr : PySem.W.nsIn K mainGlobals "repr" = some none)
    (z_sorted : PySem.W.nsIn K mainGlobals "sorted" = some none)
    (z_tuple : PySem.W.nsIn K mainGlobals "tuple" = some none)
    (x_Stretch : PySem.W.nsIn K mainGlobals "Stretch" = some (some (.ref C_Stretch)))
    (x_MP : PySem.W.nsIn K mainGlobals "MOST_PERIOD" = some (some (.int 1000000000000 tM)))
    (x_MI : PySem.W.nsIn K mainGlobals "MOST_ITEMS" = some (some (.int 60 tI)))
    (y_cls : Cls K C_Stretch)
    (y_m1 : PySem.W.makesIn K C_Stretch = true)
    (y_m3 : PySem.W.isFn K (.ref f_Stretch_init) = true)
    (y_m4 : PySem.W.keepIn K (.ref C_Stretch) = true)
    (x_ha : PySem.W.findIn K (.ref C_Stretch) "__class__" = some (some (.builtin "object.__class__")))
    (x_hn : PySem.W.specialIn K (.builtin "object.__class__") "__get__" = some (some (.builtin "getset_descriptor.__get__")))
    (x_ht : PySem.W.takesIn K (.builtin "object.__class__") = some true)
    (x_hm : PySem.W.mroIn K C_Stretch (.type "object") = some true)
    (y_kk : PySem.W.kitOne K (.ref C_Stretch) (.ref C_Stretch) = some true)
    (y_n1 : NoAttr K C_Stretch "begin")
    (y_n2 : NoAttr K C_Stretch "width")
    (y_n3 : NoAttr K C_Stretch "left")
    (y_ne : PySem.W.findIn K (.ref C_Stretch) "__ne__" = some (some (.builtin "object.__ne__")))
    (y_bo : PySem.W.findIn K (.ref C_Stretch) "__bool__" = some Option.none)
    (y_le : PySem.W.findIn K (.ref C_Stretch) "__len__" = some Option.none)
    (y_f2 : PySem.W.isFn K (.ref f_Stretch_eq) = true) :
    LawG l w K 7 mg fa h := by
  have e := hfa.symm.trans (PySem.W.mg_of X G a_law)
  cases e
  let T : Txt K mg := { a_is_whole := f_is_whole, fd_is_whole := _, F_is_whole := fun_mk (st := s_is_whole) l_is_whole c_is_whole k_is_whole, m_is_whole := PySem.W.mg_of X G a_is_whole, a_is_from := f_is_from, fd_is_from := _, F_is_from := fun_mk (st := s_is_from) l_is_from c_is_from k_is_from, m_is_from := PySem.W.mg_of X G a_is_from, a_is_between := f_is_between, fd_is_between := _, F_is_between := fun_mk (st := s_is_between) l_is_between c_is_between k_is_between, m_is_between := PySem.W.mg_of X G a_is_between, a_need_from := f_need_from, fd_need_from := _, F_need_from := fun_mk (st := s_need_from) l_need_from c_need_from k_need_from, m_need_from := PySem.W.mg_of X G a_need_from, a_is_period := f_is_period, fd_is_period := _, F_is_period := fun_mk (st := s_is_period) l_is_period c_is_period k_is_period, m_is_period := PySem.W.mg_of X G a_is_period, a_need_items := f_need_items, fd_need_items := _, F_need_items := fun_mk (st := s_need_items) l_need_items c_need_items k_need_items, m_need_items := PySem.W.mg_of X G a_need_items, a_narrowest := f_narrowest, fd_narrowest := _, F_narrowest := fun_mk (st := s_narrowest) l_narrowest c_narrowest k_narrowest, m_narrowest := PySem.W.mg_of X G a_narrowest, a_stretch_of := f_stretch_of, fd_stretch_of := _, F_stretch_of := fun_mk (st := s_stretch_of) l_stretch_of c_stretch_of k_stretch_of, m_stretch_of := PySem.W.mg_of X G a_stretch_of, a_least_play := f_least_play, fd_least_play := _, F_least_play := fun_mk (st := s_least_play) l_least_play c_least_play k_least_play, m_least_play := PySem.W.mg_of X G a_least_play, a_pen := f_pen, fd_pen := _, F_pen := fun_mk (st := s_pen) l_pen c_pen k_pen, m_pen := PySem.W.mg_of X G a_pen, a_draw := f_draw, fd_draw := _, F_draw := fun_mk (st := s_draw) l_draw c_draw k_draw, m_draw := PySem.W.mg_of X G a_draw, a_pick := f_pick, fd_pick := _, F_pick := fun_mk (st := s_pick) l_pick c_pick k_pick, m_pick := PySem.W.mg_of X G a_pick, a_stretch := f_stretch, fd_stretch := _, F_stretch := fun_mk (st := s_stretch) l_stretch c_stretch k_stretch, m_stretch := PySem.W.mg_of X G a_stretch, a_right := f_right, fd_right := _, F_right := fun_mk (st := s_right) l_right c_right k_right, m_right := PySem.W.mg_of X G a_right, a_law := fa, fd_law := _, F_law := fun_mk (st := s_law) l_law c_law k_law, m_law := PySem.W.mg_of X G a_law, a_Stretch_init := f_Stretch_init, fd_Stretch_init := _, F_Stretch_init := fun_mk (st := s_Stretch_init) l_Stretch_init c_Stretch_init k_Stretch_init, a_Stretch_eq := f_Stretch_eq, fd_Stretch_eq := _, F_Stretch_eq := fun_mk (st := s_Stretch_eq) l_Stretch_eq c_Stretch_eq k_Stretch_eq, n_ValueError := PySem.W.mg_none_of X G z_ValueError, n_abs := PySem.W.mg_none_of X G z_abs, n_bool := PySem.W.mg_none_of X G z_bool, n_enumerate := PySem.W.mg_none_of X G z_enumerate, n_int := PySem.W.mg_none_of X G z_int, n_isinstance := PySem.W.mg_none_of X G z_isinstance, n_len := PySem.W.mg_none_of X G z_len, n_list := PySem.W.mg_none_of X G z_list, n_min := PySem.W.mg_none_of X G z_min, n_range := PySem.W.mg_none_of X G z_range, n_repr := PySem.W.mg_none_of X G z_repr, n_sorted := PySem.W.mg_none_of X G z_sorted, n_tuple := PySem.W.mg_none_of X G z_tuple, u_MP := .int 1000000000000 tM, m_MP := PySem.W.mg_of X G x_MP, r_MP := ⟨_, rfl⟩, u_MI := .int 60 tI, m_MI := PySem.W.mg_of X G x_MI, r_MI := ⟨_, rfl⟩, a_Stretch := C_Stretch, m_Stretch := PySem.W.mg_of X G x_Stretch, cls := y_cls, mks := ⟨y_m1, a_Stretch_init, y_m3, y_m4⟩, ki := fun H a dx fs e => .base (.ins e y_cls x_ha x_hn x_ht x_hm), kk := y_kk, na := fun y hy => by simp only [List.mem_cons, List.not_mem_nil, or_false] at hy; rcases hy with rfl | rfl | rfl; exact y_n1; exact y_n2; exact y_n3, fi_eq := a_Stretch_eq, fi_ne := y_ne, fi_bool := y_bo, fi_len := y_le, mro_o := x_hm, fn_eq := y_f2 }
  refine ⟨[], spLaw K, fun p hp => absurd hp List.not_mem_nil, fun p hp => absurd hp List.not_mem_nil, fun p hp => absurd hp List.not_mem_nil, fun H a ns hl hb tt hS => ⟨a, ns, rfl, hS, hl, fun _ => rfl⟩, fun base KB NB TBs => ok_law T⟩
end My
open PySem PySem.W PyProof.Rows in
set_option maxRecDepth 100000 in
set_option maxHeartbeats 0 in
theorem PySem.Challenge.cw_wheelreach_k86_least_stretches_of_offset_holds : PySem.Challenge.rw_wheelreach_k86_least_stretches_of_offset.Holds := by
  w_on; o_law; k_head; (case hw => w_witness2)
  k_fill
  refine My.walkG (l := PySem.Challenge.rw_wheelreach_k86_least_stretches_of_offset) (k := 7) [] (by decide +kernel) rfl rfl ⟨rfl, by decide, by decide⟩ (fun w h Y => PySem.W.kIn_of Y) ?F
  case F =>
    intro w mg fa h KX G hmg tabs
    refine' My.all_mk KX G hmg tabs ?a_is_whole ?l_is_whole ?c_is_whole ?k_is_whole ?a_is_from ?l_is_from ?c_is_from ?k_is_from ?a_is_between ?l_is_between ?c_is_between ?k_is_between ?a_need_from ?l_need_from ?c_need_from ?k_need_from ?a_is_period ?l_is_period ?c_is_period ?k_is_period ?a_need_items ?l_need_items ?c_need_items ?k_need_items ?a_narrowest ?l_narrowest ?c_narrowest ?k_narrowest ?a_stretch_of ?l_stretch_of ?c_stretch_of ?k_stretch_of ?a_least_play ?l_least_play ?c_least_play ?k_least_play ?a_pen ?l_pen ?c_pen ?k_pen ?a_draw ?l_draw ?c_draw ?k_draw ?a_pick ?l_pick ?c_pick ?k_pick ?a_stretch ?l_stretch ?c_stretch ?k_stretch ?a_right ?l_right ?c_right ?k_right ?a_law ?l_law ?c_law ?k_law ?a_Stretch_init ?l_Stretch_init ?c_Stretch_init ?k_Stretch_init ?a_Stretch_eq ?l_Stretch_eq ?c_Stretch_eq ?k_Stretch_eq ?z_ValueError ?z_abs ?z_bool ?z_enumerate ?z_int ?z_isinstance ?z_len ?z_list ?z_min ?z_range ?z_repr ?z_sorted ?z_tuple ?x_Stretch ?x_MP ?x_MI ?y_cls ?y_m1 ?y_m3 ?y_m4 ?x_ha ?x_hn ?x_ht ?x_hm ?y_kk ?y_n1 ?y_n2 ?y_n3 ?y_ne ?y_bo ?y_le ?y_f2
    (case x_Stretch => first | k_is | rfl | decide +kernel)
    (case x_MP => first | k_is | rfl | decide +kernel)
    (case x_MI => first | k_is | rfl | decide +kernel)
    (case a_is_whole => k_is)
    (case l_is_whole => k_is)
    (case c_is_whole => k_is)
    (case k_is_whole => k_is)
    (case a_is_from => k_is)
    (case l_is_from => k_is)
    (case c_is_from => k_is)
    (case k_is_from => k_is)
    (case a_is_between => k_is)
    (case l_is_between => k_is)
    (case c_is_between => k_is)
    (case k_is_between => k_is)
    (case a_need_from => k_is)
    (case l_need_from => k_is)
    (case c_need_from => k_is)
    (case k_need_from => k_is)
    (case a_is_period => k_is)
    (case l_is_period => k_is)
    (case c_is_period => k_is)
    (case k_is_period => k_is)
    (case a_need_items => k_is)
    (case l_need_items => k_is)
    (case c_need_items => k_is)
    (case k_need_items => k_is)
    (case a_narrowest => k_is)
    (case l_narrowest => k_is)
    (case c_narrowest => k_is)
    (case k_narrowest => k_is)
    (case a_stretch_of => k_is)
    (case l_stretch_of => k_is)
    (case c_stretch_of => k_is)
    (case k_stretch_of => k_is)
    (case a_least_play => k_is)
    (case l_least_play => k_is)
    (case c_least_play => k_is)
    (case k_least_play => k_is)
    (case a_pen => k_is)
    (case l_pen => k_is)
    (case c_pen => k_is)
    (case k_pen => k_is)
    (case a_draw => k_is)
    (case l_draw => k_is)
    (case c_draw => k_is)
    (case k_draw => k_is)
    (case a_pick => k_is)
    (case l_pick => k_is)
    (case c_pick => k_is)
    (case k_pick => k_is)
    (case a_stretch => k_is)
    (case l_stretch => k_is)
    (case c_stretch => k_is)
    (case k_stretch => k_is)
    (case a_right => k_is)
    (case l_right => k_is)
    (case c_right => k_is)
    (case k_right => k_is)
    (case a_law => k_is)
    (case l_law => k_is)
    (case c_law => k_is)
    (case k_law => k_is)
    (case a_Stretch_init => k_is)
    (case l_Stretch_init => k_is)
    (case c_Stretch_init => k_is)
    (case k_Stretch_init => k_is)
    (case a_Stretch_eq => k_is)
    (case l_Stretch_eq => k_is)
    (case c_Stretch_eq => k_is)
    (case k_Stretch_eq => k_is)
    (case z_ValueError => k_is)
    (case z_abs => k_is)
    (case z_bool => k_is)
    (case z_enumerate => k_is)
    (case z_int => k_is)
    (case z_isinstance => k_is)
    (case z_len => k_is)
    (case z_list => k_is)
    (case z_min => k_is)
    (case z_range => k_is)
    (case z_repr => k_is)
    (case z_sorted => k_is)
    (case z_tuple => k_is)
    (case y_cls => exact ⟨by k_is, by k_is, by k_is, by k_is⟩)
    (case y_m1 => first | k_is | rfl | decide +kernel)
    (case y_m3 => first | k_is | rfl | decide +kernel)
    (case y_m4 => first | k_is | rfl | decide +kernel)
    (case x_ha => first | k_is | rfl | decide +kernel)
    (case x_hn => first | k_is | rfl | decide +kernel)
    (case x_ht => first | k_is | rfl | decide +kernel)
    (case x_hm => first | k_is | rfl | decide +kernel)
    (case y_kk => first | k_is | rfl | decide +kernel)
    (case y_n1 => show PySem.W.findIn _ _ _ = _; k_is)
    (case y_n2 => show PySem.W.findIn _ _ _ = _; k_is)
    (case y_n3 => show PySem.W.findIn _ _ _ = _; k_is)
    (case y_ne => first | k_is | rfl | decide +kernel)
    (case y_bo => first | k_is | rfl | decide +kernel)
    (case y_le => first | k_is | rfl | decide +kernel)
    (case y_f2 => first | k_is | rfl | decide +kernel)
