import PyProof.Rows.All
import Wide.All
import OpenK.AllK
import Wide.FinOn
import HandS.Walk
import KE.DatumOrd
import KE.KDictZip
import KE.GoesMore
import HandS.ForMost
import HandS.ForExc
import HandS.Star
import HandS.Gcd
import HandS.Wide
import HandS.IsInst
import HandS.Style
import HandS.Codes
import HandS.Sort
import HandS.TupAny
import HandS.OwnEq
import HandS.ClsMeth
import HandS.MakeKw
import HandS.MakeKwOnly
import HandS.IterVal
import HandS.Lambda
import KE.KOwnIter
import HandS.EndTab
import KE.KExcIs
import KE.DataMinMax
import HandS.AnyAll
import HandS.Zip
import HandS.Property
import HandS.ExcInit
import HandS.ExcIs
import HandS.WordsExc
import KE.KSuper
import HandS.FStr
import HandS.Text
import HandS.StrMore
import HandS.StrSplit
import KE.KOpsOwn
import HandS.Steps
import HandS.Flow
import HandS.Dict
import HandS.WordsDict
import PyProof.MeetsSeq2
import HandS.RaiseFrom
import HandS.ExcInitHot
import HandS.ExcCtx
import HandS.SuiteRaise
import HandS.HotCalls
import HandS.Hot
import HandS.SortRule
import HandS.More
import KE.SortData
import KE.SortLaws
import HandS.DictComp
import PySem.Challenge.RW_wheelreach_k81_whole_shelves_led_back_an
set_option Elab.async false
set_option linter.all false
set_option maxRecDepth 100000
set_option maxHeartbeats 4000000
/-! Numbers: divisors, multiples, remainders put together, as plain functions, and what holds of them. -/
namespace NM

/-! ### common, multiple -/
def gcdL (ns : List Int) : Nat := ns.foldl (fun g n => Nat.gcd g n.natAbs) 0
def lcmL (ns : List Int) : Nat := ns.foldl (fun g n => Nat.lcm g n.natAbs) 1
theorem gcdL_snoc (l : List Int) (z : Int) : gcdL (l ++ [z]) = Nat.gcd (gcdL l) z.natAbs := by
  unfold gcdL; rw [List.foldl_append]; rfl
theorem lcmL_snoc (l : List Int) (z : Int) : lcmL (l ++ [z]) = Nat.lcm (lcmL l) z.natAbs := by
  unfold lcmL; rw [List.foldl_append]; rfl
theorem take_snoc {α : Type} : ∀ {l : List α} {i : Nat} {x : α}, l[i]? = some x → l.take (i + 1) = l.take i ++ [x]
  | [], i, x, h => by simp at h
  | a :: l, 0, x, h => by
    have e : a = x := Option.some.inj h
    subst e
    rfl
  | a :: l, i + 1, x, h => by
    have ih := take_snoc (l := l) (i := i) (x := x) h
    show a :: l.take (i + 1) = a :: l.take i ++ [x]
    rw [ih]
    rfl
theorem lcm_step {f n : Int} (hf : 0 < f) (hn : 0 < n) : f / ((Nat.gcd f.natAbs n.natAbs : Nat) : Int) * n = ((Nat.lcm f.natAbs n.natAbs : Nat) : Int) := by
  obtain ⟨a, rfl⟩ : ∃ a : Nat, f = (a : Int) := ⟨f.toNat, by omega⟩
  obtain ⟨b, rfl⟩ : ∃ b : Nat, n = (b : Int) := ⟨n.toNat, by omega⟩
  simp only [Int.natAbs_natCast]
  have h := Nat.gcd_dvd_left a b
  rw [← Int.natCast_ediv, ← Int.natCast_mul]
  congr 1
  unfold Nat.lcm
  rw [Nat.mul_comm (a / _) b, Nat.mul_comm a b, Nat.mul_div_assoc _ h]
theorem lcmL_pos {l : List Int} (h : ∀ z ∈ l, 0 < z) : 0 < lcmL l := by
  unfold lcmL
  suffices ∀ (l : List Int) (a : Nat), 0 < a → (∀ z ∈ l, 0 < z) → 0 < l.foldl (fun g n => Nat.lcm g n.natAbs) a from this l 1 (by decide) h
  intro l
  induction l with
  | nil => intro a ha _; exact ha
  | cons z l ih =>
    intro a ha h
    refine ih _ ?_ (fun y hy => h y (List.mem_cons_of_mem _ hy))
    have hz := h z List.mem_cons_self
    exact Nat.lcm_pos ha (by omega)
theorem lcm_le_mul {a b : Nat} (ha : 0 < a) (hb : 0 < b) : Nat.lcm a b ≤ a * b := Nat.le_of_dvd (Nat.mul_pos ha hb) (Nat.lcm_dvd_mul a b)

/-! ### how far from a multiple -/
def apartI (d p : Int) : Int := if p - d % p < d % p then p - d % p else d % p
theorem apart_nn {d p : Int} (hp : 0 < p) : 0 ≤ apartI d p := by
  unfold apartI
  have h1 := Int.emod_nonneg d (show p ≠ 0 by omega)
  have h2 := Int.emod_lt_of_pos d hp
  split <;> omega
theorem apart_half {d p : Int} (hp : 0 < p) : 2 * apartI d p ≤ p := by
  unfold apartI
  have h1 := Int.emod_nonneg d (show p ≠ 0 by omega)
  have h2 := Int.emod_lt_of_pos d hp
  split <;> omega
/-- the nearest multiple is that far away -/
theorem apart_at {d p : Int} (hp : 0 < p) : ∃ k, d = p * k + apartI d p ∨ d = p * k - apartI d p := by
  have e := Int.mul_ediv_add_emod d p
  unfold apartI
  split
  · refine ⟨d / p + 1, .inr ?_⟩
    rw [Int.mul_add]; omega
  · exact ⟨d / p, .inl (by omega)⟩
/-- no multiple is nearer -/
theorem apart_le {d p : Int} (hp : 0 < p) (k a : Int) (h : d = p * k + a) : apartI d p ≤ (a.natAbs : Int) := by
  have e1 : d % p = a % p := by rw [h, Int.add_comm, Int.add_mul_emod_self_left]
  have h1 := Int.emod_nonneg a (show p ≠ 0 by omega)
  have h2 := Int.emod_lt_of_pos a hp
  have e := Int.mul_ediv_add_emod a p
  unfold apartI
  rw [e1]
  by_cases h0 : 0 ≤ a
  · have : a % p ≤ a := by
      have : 0 ≤ a / p := Int.ediv_nonneg h0 (by omega)
      have := Int.mul_nonneg (show 0 ≤ p by omega) this
      omega
    split <;> omega
  · have hq : a / p ≤ -1 := by
      have := Int.ediv_lt_of_lt_mul hp (show a < 0 * p by omega)
      omega
    have : p * (a / p) ≤ p * (-1) := Int.mul_le_mul_of_nonneg_left hq (by omega)
    split <;> omega
theorem apart_neg {d p : Int} (hp : 0 < p) : apartI (-d) p = apartI d p := by
  have aux : ∀ x : Int, apartI (-x) p ≤ apartI x p := fun x => by
    obtain ⟨k, h | h⟩ := apart_at (d := x) hp
    · have := apart_le (d := -x) hp (-k) (-apartI x p) (by rw [Int.mul_neg]; omega)
      have := apart_nn (d := x) hp
      omega
    · have := apart_le (d := -x) hp (-k) (apartI x p) (by rw [Int.mul_neg]; omega)
      have := apart_nn (d := x) hp
      omega
  have h1 := aux d
  have h2 := aux (-d)
  rw [Int.neg_neg] at h2
  omega
theorem apart_round {d p : Int} (hp : 0 < p) (k : Int) : apartI (d + p * k) p = apartI d p := by
  unfold apartI
  rw [Int.add_mul_emod_self_left]
theorem apart_tri {d e p : Int} (hp : 0 < p) : apartI (d + e) p ≤ apartI d p + apartI e p := by
  have n1 := apart_nn (d := d) hp
  have n2 := apart_nn (d := e) hp
  obtain ⟨k, h⟩ := apart_at (d := d) hp
  obtain ⟨l, g⟩ := apart_at (d := e) hp
  have fin : ∀ a : Int, d + e = p * (k + l) + a → (a.natAbs : Int) ≤ apartI d p + apartI e p → apartI (d + e) p ≤ apartI d p + apartI e p := fun a ha hb =>
    Int.le_trans (apart_le hp (k + l) a ha) hb
  have ex : p * (k + l) = p * k + p * l := Int.mul_add _ _ _
  rcases h with h | h <;> rcases g with g | g
  · exact fin (apartI d p + apartI e p) (by rw [ex]; omega) (by omega)
  · exact fin (apartI d p - apartI e p) (by rw [ex]; omega) (by omega)
  · exact fin (-apartI d p + apartI e p) (by rw [ex]; omega) (by omega)
  · exact fin (-apartI d p - apartI e p) (by rw [ex]; omega) (by omega)
theorem apart_mult {p k : Int} (hp : 0 < p) : apartI (p * k) p = 0 := by
  unfold apartI
  rw [Int.mul_emod_right]
  split <;> omega
theorem apart_self {p : Int} (hp : 0 < p) : apartI p p = 0 := by
  have h := apart_mult (k := 1) hp
  rwa [Int.mul_one] at h
theorem apart_reach {d p : Int} (hp : 0 < p) : apartI (d - apartI d p) p = 0 ∨ apartI (d + apartI d p) p = 0 := by
  obtain ⟨k, h | h⟩ := apart_at (d := d) hp
  · left
    have e : d - apartI d p = p * k := by omega
    rw [e]; exact apart_mult hp
  · right
    have e : d + apartI d p = p * k := by omega
    rw [e]; exact apart_mult hp

theorem gcd_emod (a b : Int) : Int.gcd (a % b) b = Int.gcd a b := by
  have e := Int.mul_ediv_add_emod a b
  have h : a % b = a - a / b * b := by rw [Int.mul_comm]; omega
  rw [h]; exact Int.gcd_sub_mul_right_left _ _ _
/-! ### the inverse, by Euclid's division -/
structure Euc (number divisor left right found following : Int) : Prop where
  l : 0 < left
  r : 0 ≤ right
  rl : right < left ∨ left = divisor
  le : left ≤ divisor
  rd : right < divisor
  g : Nat.gcd left.natAbs right.natAbs = Nat.gcd divisor.natAbs number.natAbs
  c1 : divisor ∣ found * number - left
  c2 : divisor ∣ following * number - right
  s : (found ≤ 0 ∧ 0 ≤ following ∧ left * following - right * found = divisor) ∨ (0 ≤ found ∧ following ≤ 0 ∧ right * found - left * following = divisor)
theorem Euc.start {number divisor : Int} (hd : 0 < divisor) : Euc number divisor divisor (number % divisor) 0 1 where
  l := hd
  r := Int.emod_nonneg _ (by omega)
  rl := .inr rfl
  le := Int.le_refl _
  rd := Int.emod_lt_of_pos _ hd
  g := by
    have e := Int.mul_ediv_add_emod number divisor
    have h : ((Nat.gcd divisor.natAbs (number % divisor).natAbs : Nat) : Int) = ((Nat.gcd divisor.natAbs number.natAbs : Nat) : Int) := by
      show ((Int.gcd divisor (number % divisor) : Nat) : Int) = ((Int.gcd divisor number : Nat) : Int)
      congr 1
      rw [Int.gcd_comm, Int.gcd_comm divisor number]
      exact gcd_emod _ _
    exact Int.natCast_inj.mp h
  c1 := ⟨-1, by omega⟩
  c2 := by
    have e := Int.mul_ediv_add_emod number divisor
    exact ⟨number / divisor, by omega⟩
  s := .inl ⟨Int.le_refl _, by omega, by omega⟩
theorem Euc.turn {number divisor left right found following : Int} (E : Euc number divisor left right found following) (h : right ≠ 0) :
    Euc number divisor right (left - left / right * right) following (found - left / right * following) := by
  have hr : 0 < right := by have := E.r; omega
  have e := Int.mul_ediv_add_emod left right
  have em : left - left / right * right = left % right := by rw [Int.mul_comm]; omega
  have h1 := Int.emod_nonneg left (show right ≠ 0 by omega)
  have h2 := Int.emod_lt_of_pos left hr
  have hq : 0 ≤ left / right := Int.ediv_nonneg (Int.le_of_lt E.l) (by omega)
  have lrd := E.rd
  refine ⟨hr, by omega, .inl (by omega), by omega, by omega, ?_, E.c2, ?_, ?_⟩
  · rw [← E.g, em]
    show Int.gcd right (left % right) = Int.gcd left right
    rw [Int.gcd_comm]
    exact gcd_emod _ _
  · obtain ⟨a, ha⟩ := E.c1
    obtain ⟨b, hb⟩ := E.c2
    refine ⟨a - left / right * b, ?_⟩
    rw [Int.sub_mul, Int.mul_sub]
    have x1 : left / right * following * number = left / right * (following * number) := Int.mul_assoc _ _ _
    have x2 : divisor * (left / right * b) = left / right * (divisor * b) := by rw [← Int.mul_assoc, Int.mul_comm divisor, Int.mul_assoc]
    rw [x1, x2, ← hb, ← ha, Int.mul_sub]
    omega
  · have hm : ∀ x : Int, 0 ≤ x → 0 ≤ left / right * x := fun x hx => Int.mul_nonneg hq hx
    have hn : ∀ x : Int, x ≤ 0 → left / right * x ≤ 0 := fun x hx => by
      have := Int.mul_nonneg hq (show 0 ≤ -x by omega)
      rw [Int.mul_neg] at this
      omega
    have y1 : right * (found - left / right * following) = right * found - right * (left / right * following) := Int.mul_sub _ _ _
    have y2 : (left - left / right * right) * following = left * following - left / right * right * following := Int.sub_mul _ _ _
    have y3 : left / right * right * following = right * (left / right * following) := by rw [Int.mul_comm (left / right) right, Int.mul_assoc]
    rcases E.s with ⟨s1, s2, s3⟩ | ⟨s1, s2, s3⟩
    · refine .inr ⟨s2, by have := hm _ s2; omega, ?_⟩
      rw [y1, y2, y3]; omega
    · refine .inl ⟨s2, by have := hn _ s2; omega, ?_⟩
      rw [y1, y2, y3]; omega
theorem Euc.less {number divisor left right found following : Int} (E : Euc number divisor left right found following) (h : right ≠ 0) : (left - left / right * right).toNat < right.toNat := by
  have hr : 0 < right := by have := E.r; omega
  have e := Int.mul_ediv_add_emod left right
  have em : left - left / right * right = left % right := by rw [Int.mul_comm]; omega
  have h1 := Int.emod_nonneg left (show right ≠ 0 by omega)
  have h2 := Int.emod_lt_of_pos left hr
  omega
/-- the sizes -/
theorem Euc.size {number divisor left right found following : Int} (E : Euc number divisor left right found following) : following.natAbs ≤ divisor.natAbs ∧ (right ≠ 0 → found.natAbs ≤ divisor.natAbs) := by
  have l := E.l
  have r := E.r
  have key : ∀ a b c e : Int, 0 < a → 0 ≤ b → 0 ≤ c → 0 ≤ e → a * c + b * e = divisor → c ≤ divisor ∧ (b ≠ 0 → e ≤ divisor) := fun a b c e ha hb hc he h => by
    have p1 := Int.mul_nonneg hb he
    have p2 : c ≤ a * c := by
      have := Int.mul_le_mul_of_nonneg_right (show 1 ≤ a by omega) hc
      omega
    refine ⟨by omega, fun hb0 => ?_⟩
    have p3 : e ≤ b * e := by
      have := Int.mul_le_mul_of_nonneg_right (show 1 ≤ b by omega) he
      omega
    have p4 := Int.mul_nonneg (Int.le_of_lt ha) hc
    omega
  rcases E.s with ⟨s1, s2, s3⟩ | ⟨s1, s2, s3⟩
  · have k := key left right following (-found) l r s2 (by omega) (by rw [Int.mul_neg]; omega)
    exact ⟨by omega, fun h => by have := k.2 h; omega⟩
  · have k := key left right (-following) found l r (by omega) s1 (by rw [Int.mul_neg]; omega)
    exact ⟨by omega, fun h => by have := k.2 h; omega⟩
theorem Euc.fin {number divisor left found following : Int} (E : Euc number divisor left 0 found following) (hg : Nat.gcd divisor.natAbs number.natAbs = 1) : divisor ∣ found * number - 1 := by
  have g := E.g
  rw [hg] at g
  have l := E.l
  have : left = 1 := by
    simp at g
    omega
  have c := E.c1
  rwa [this] at c
end NM

namespace My
open PySem PySem.Spec PyProof.Rows L2
section
/-! ### a method that ends in super().__init__(..) -/
/-- names of a method whose one free name is the class -/
structure SupScope (N ps : List Str) (sc : Scope) : Prop where
  kind : sc.kind = .function
  co : sc.isCoroutine = false
  gen : sc.isGenerator = false
  nd : N.Nodup
  pre : N.take ps.length = ps
  par : ∀ x ∈ ps, sc.names.lookup x = some .local
  nocell : ∀ y ∈ sc.names, y.2 ≠ .cell
  free : ∀ y ∈ sc.names, y.2 = .free → y.1 = "__class__"
/-- the context of such a method's body -/
def cxS (CX : CXT) (P : Program) (w : World) (K : PySem.W.Frag) (mg : Str → Option Value) (base : Heap) (N : List Str) (qual : Str) (scope : Scope) (f : Addr) (cd : Value) (cc : Addr) (A : Around) (outer : List Env) (s : Shared) (H : Hp) (E : XK) : Cx where
  prog := P
  w := w
  K := K
  mg := mg
  base := base
  A := A.deeper (PySem.W.ksEnv qual scope s.heap.objs.size f cd cc)
  N := N
  s_0 := s
  H_0 := H
  env := PySem.W.ksEnv qual scope s.heap.objs.size f cd cc
  outer := outer
  stack := PySem.W.ksEnv qual scope s.heap.objs.size f cd cc :: outer
  ex := []
  calm := true
  fn := fun _ => false
  pn := []
  xe := fun e s' => wpAny (model P w) (A.deeper (PySem.W.ksEnv qual scope s.heap.objs.size f cd cc)) (leaving (PySem.W.ksEnv qual scope s.heap.objs.size f cd cc) e) (fun _ s'' => CX outer H s E e s'') (fun e' s'' => CX outer H s E e' s'') s'
theorem look_nd {x : Str} {u : Value} : ∀ {l : List (Str × Value)}, (l.map (·.1)).Nodup → (x, u) ∈ l → l.lookup x = some u
  | [], _, h => by cases h
  | (y, v) :: l, nd, h => by
    rw [List.map_cons] at nd
    obtain ⟨n1, n2⟩ := List.nodup_cons.mp nd
    rcases List.mem_cons.mp h with e | e
    · cases e
      exact List.lookup_cons_self
    · have ne : (x == y) = false := by
        rw [beq_eq_false_iff_ne]
        rintro rfl
        exact n1 (List.mem_map.mpr ⟨_, e, rfl⟩)
      rw [List.lookup_cons, ne]
      exact look_nd n2 e
theorem base_at {X : Cx} {pins : List (Addr × Obj)} {σ : L2.St} {H : Hp} {s : Shared} {a : Addr} {o : Obj} (I : Inv X pins σ H s) (e : X.K.lookup a = some o) : s.heap.get? a = some o := I.kIn _ _ e
theorem inv_sup {CX : CXT} {P : Program} {w : World} {K : PySem.W.Frag} {mg : Str → Option Value} {base : Heap} {N ps : List Str} {qual : Str} {scope : Scope} {f cc : Addr} {cd : Value} {A : Around} {outer : List Env} {s : Shared} {h1 : Heap} {t1 : Nat} {H : Hp} {E : XK} {us : List Value} {vs : List V} {oc : Obj} {v0 : Option Value}
    (S : SupScope N ps scope) (hd : A.handled = none) (e0 : Env0 P w K mg base A outer s H) (hl : vs.length = ps.length) (r : Vals vs us) (hcc : K.lookup cc = some oc) (hoc : oc.data = .cell v0)
    (hns : h1.Ns s.heap.objs.size (fun x => (ps.zip us).reverse.lookup x)) (hk : ∀ b o, s.heap.get? b = some o → h1.get? b = some o) :
    Inv (cxS CX P w K mg base N qual scope f cd cc A outer s H E) [] (start N vs) H { s with heap := h1, toks := t1 } := by
  have hpl : ps.length ≤ N.length := by have := congrArg List.length S.pre; rw [List.length_take] at this; omega
  have noA : ∀ b : Addr, b ∉ (cxS CX P w K mg base N qual scope f cd cc A outer s H E).ex := fun b z => absurd (show b ∈ ([] : List Addr) from z) (by simp)
  have cl : ∀ (y : Str) (c : Addr), (cxS CX P w K mg base N qual scope f cd cc A outer s H E).env.cells.lookup y = some c → y = "__class__" ∧ c = cc := fun y c h => by
    have h : ([("__class__", cc)] : List (Str × Addr)).lookup y = some c := h
    rw [List.lookup_cons] at h
    cases e : (y == ("__class__" : Str)) with
    | true =>
      rw [e] at h
      cases h
      exact ⟨eq_of_beq e, rfl⟩
    | false => rw [e] at h; cases h
  have bc : base.get? cc = some oc := e0.mod.kin _ _ hcc
  have sc' := e0.bs _ _ bc
  refine ⟨⟨e0.mod, S.kind, rfl, rfl, Nat.le_refl _, fun y z c a b => ?_, fun y hy => ?_, fun y c z => (nomatch z), fun _ => hd, Around.frames_deeper e0.frames, .inr ⟨rfl, rfl⟩, fun b z => absurd z (noA b), e0.bs, e0.bsz, fun b _ _ => noA b, fun b z => absurd z (noA b), e0.funs, e0.frf⟩,
    rfl, e0.bare, Un.kept hk, ⟨_, hns, fun i y v h1 h2 h3 => ?_⟩, fun y c h => ?_, e0.hok.fresh (Nat.le_refl _), fun y c h => ?_, fun p hp => absurd (show p ∈ ([] : List (Addr × Obj)) from hp) (by simp), e0.hok.kept hk, ?_⟩
  · rw [(cl y c a).1, (cl z c b).1]
  · have hy : scope.names.lookup y = some .cell ∨ scope.names.lookup y = some .free := hy
    rcases hy with hy | hy
    · exact absurd rfl (S.nocell _ (PySem.mem_of_lookup hy))
    · have := S.free _ (PySem.mem_of_lookup hy) rfl
      dsimp only at this
      subst this
      exact ⟨cc, rfl⟩
  · have hi : i < vs.length := by
      unfold L2.start at h2
      by_cases hi : i < vs.length
      · exact hi
      · rw [List.getElem?_append_right (by simpa using hi)] at h2
        rw [List.getElem?_replicate] at h2
        split at h2 <;> cases h2
    have ha : vs[i]? = some v := by
      unfold L2.start at h2
      rw [List.getElem?_append_left (by simpa using hi), List.getElem?_map] at h2
      cases e : vs[i]? with
      | none => rw [e] at h2; cases h2
      | some a => rw [e] at h2; cases h2; rfl
    obtain ⟨u, hu, rv⟩ := r.get ha
    have hp : ps[i]? = some y := by
      rw [← S.pre, List.getElem?_take_of_lt (by omega)]; exact h1
    have ndP : ps.Nodup := by rw [← S.pre]; exact S.nd.sublist (List.take_sublist _ _)
    refine ⟨u, rv, .inl ⟨S.par y (List.mem_of_getElem? hp), look_nd ?_ ?_⟩⟩
    · rw [List.map_reverse]
      have hu2 : us.length = ps.length := by rw [← r.length]; exact hl
      rw [show (ps.zip us).map (·.1) = ps from List.map_fst_zip (by omega)]
      exact List.pairwise_reverse.mpr (List.Pairwise.imp (fun h => Ne.symm h) ndP)
    · refine List.mem_reverse.mpr (List.mem_of_getElem? (i := i) ?_)
      rw [List.getElem?_zip_eq_some]
      exact ⟨hp, hu⟩
  · obtain ⟨_, rfl⟩ := cl y c h
    exact ⟨v0, oc, hk _ _ sc'.1, hoc⟩
  · obtain ⟨_, rfl⟩ := cl y c h
    exact sc'.2
  · unfold L2.start
    show _ = N.length
    rw [List.length_append, List.length_map, List.length_replicate]
    omega
/-- statements run where the code on top is this body's -/
structure PSup (X : Cx) (whole st : List Stmt) (t : TS) : Prop where
  run : ∀ (pins : List (Addr × Obj)) (s : Shared) (σ : L2.St) (H : Hp) (D : Ends), Inv X pins σ H s → t D σ H → _root_.PySem.wpAt (model X.prog X.w) X.A (.func whole X.env) (execs st X.env) (SP X pins D) X.xe s
theorem psup_cons {X : Cx} {whole : List Stmt} {st : Stmt} {rest : List Stmt} {t u : TS} (h1 : PS X st t) (h2 : PSup X whole rest u) : PSup X whole (st :: rest) (tSeq t u) := by
  refine ⟨fun pins s σ H D I h => ?_⟩
  refine ks_wpAt_execs_cons (wpAt_of_wpAny (thn (h1.run pins s σ H { D with nx := u D } I h) fun f s1 q => ?_))
  cases f with
  | next =>
    obtain ⟨σ', H', I', q⟩ := q
    exact h2.run pins s1 σ' H' D I' q
  | ret v => exact q
  | brk => exact q
  | cont => exact q
theorem fn_sup {CX : CXT} {P : Program} {w : World} {K : PySem.W.Frag} {mg : Str → Option Value} {base : Heap} {k : Nat} {f cc : Addr} {name qual : Str} {params : Arguments} {body : List Stmt} {scope : Scope} {dV kV doc pm cdv ct oc : Value} {an od : Option Addr}
    {osl : Array (Option Value)} {N ps : List Str} {sp : Sp} {oc' : Obj} {v0 : Option Value} (lk : K.lookup f = some ⟨oc, od, .func (PySem.W.ksFn name qual params body scope dV kV doc pm an cdv ct cc), osl⟩) (hcd : PySem.W.codeIn K cdv qual = true) (S : SupScope N ps scope)
    (hcc : K.lookup cc = some oc') (hoc : oc'.data = .cell v0)
    (len : ∀ vs H Q E, sp vs H Q E → vs.length = ps.length)
    (hbody : ∀ (A : Around) (outer : List Env) (s : Shared) (H : Hp) (vs : List V) (Q : VK) (E : XK), Room k (A.deeper (PySem.W.ksEnv qual scope s.heap.objs.size f cdv cc)) → sp vs H Q E →
      ∃ t, PSup (cxS CX P w K mg base N qual scope f cdv cc A outer s H E) body body t ∧ t { nx := fun _ H' => Q .non H', rt := Q } (start N vs) H) :
    FnOk P w K mg base CX (k + 1) f (PySem.W.ksFn name qual params body scope dV kV doc pm an cdv ct cc) ps sp := by
  refine ⟨len, fun A outer s H args us vs Q E hr e0 hb r hsp => ?_⟩
  have hl := len _ _ _ _ hsp
  have KX : K.In s.heap := e0.mod.kin.keeps fun b o e => (e0.bs b o e).1
  have lim : s.heap.NoLimit := e0.mod.nolimit.keeps fun b o e => (e0.bs b o e).1
  refine ks_codeAny_call_defAt hr.depth (KX _ _ lk) rfl lim (PySem.W.codeRec_of KX hcd) rfl hb S.nocell (fun y hy => S.par _ (List.of_mem_zip (show (y.1, y.2) ∈ ps.zip us from hy)).1) (fun h1 hns hk => ?_) S.co S.gen S.kind
  obtain ⟨t, ht, hq⟩ := hbody A outer s H vs Q E (hr.deeper _) hsp
  have I : Inv (cxS CX P w K mg base N qual scope f cdv cc A outer s H E) [] (start N vs) H { s with heap := h1, toks := s.toks + (ps.zip us).length } := inv_sup S hr.hd e0 hl r hcc hoc hns hk
  refine ks_wpAt_mono (ht.run [] _ (start N vs) H _ I hq) (fun fl s' hs => ?_) fun e s' hs => hs
  have fin : ∀ {σ' : L2.St} {H' : Hp} {v : V} {u : Value}, Inv (cxS CX P w K mg base N qual scope f cdv cc A outer s H E) [] σ' H' s' → RelV v u → Q v H' → CE outer P w H s Q u s' :=
    fun {σ' H' v u} J rv q => ⟨v, H', J.os, J.bare, J.base, J.hok, rv, q⟩
  cases fl with
  | ret u =>
    obtain ⟨v, σ', H', J, rv, q⟩ := hs
    exact fin J rv q
  | next =>
    obtain ⟨σ', H', J, q⟩ := hs
    exact fin (v := V.non) (u := Value.none) J rfl q
  | brk =>
    obtain ⟨_, _, _, q⟩ := hs
    exact False.elim q
  | cont =>
    obtain ⟨_, _, _, q⟩ := hs
    exact False.elim q
/-- what of the text super() reads, in the method f of the class at D -/
structure SupOf (P : Program) (K : PySem.W.Frag) (mg : Str → Option Value) (f cda cc D f2 : Addr) (sn : Str) : Prop where
  fn : ∃ (oc : Value) (od : Option Addr) (fd : FuncData) (osl : Array (Option Value)) (ar : Arg), K.lookup f = some ⟨oc, od, .func fd, osl⟩ ∧ (fd.params.posonlyargs ++ fd.params.args).head? = some ar ∧ ar.arg = sn
  code : ∃ (ccl : Value) (cdd : Option Addr) (vs : Array Value) (ccs : Array (Option Value)) (file : Str) (tf : Tok), K.lookup cda = some ⟨ccl, cdd, .fields vs, ccs⟩ ∧ vs[2]? = some (.str file tf) ∧ ((P.main.file : Str) == file) = true
  cell : ∃ (cl : Value) (cld : Option Addr) (csl : Array (Option Value)), K.lookup cc = some ⟨cl, cld, .cell (some (.ref D)), csl⟩
  cls : ∃ cd, PySem.W.clsIn K D = some cd
  nosup : mg "super" = none
  top : (P.main.scope.names.lookup ("super" : Str)).isSome = false
  any : PySem.W.nsIn K PySem.cStatics "thirdparty.any" = some none
  fn2 : PySem.W.typeIn K (.ref f2) = some (.type "function")
  fi : PySem.W.fnIn K f2 = true
/-- the program's file, and that it lays no super of its own -/
structure PrF (fl : Str) (P : Program) : Prop where
  file : ((P.main.file : Str) == fl) = true
  top : (P.main.scope.names.lookup ("super" : Str)).isSome = false
/-- the same without the program -/
structure SupK (K : PySem.W.Frag) (mg : Str → Option Value) (fl : Str) (cda cc D f2 : Addr) : Prop where
  code : ∃ (ccl : Value) (cdd : Option Addr) (vs : Array Value) (ccs : Array (Option Value)) (tf : Tok), K.lookup cda = some ⟨ccl, cdd, .fields vs, ccs⟩ ∧ vs[2]? = some (.str fl tf)
  cell : ∃ (cl : Value) (cld : Option Addr) (csl : Array (Option Value)), K.lookup cc = some ⟨cl, cld, .cell (some (.ref D)), csl⟩
  cls : ∃ cd, PySem.W.clsIn K D = some cd
  nosup : mg "super" = none
  any : PySem.W.nsIn K PySem.cStatics "thirdparty.any" = some none
  fn2 : PySem.W.typeIn K (.ref f2) = some (.type "function")
  fi : PySem.W.fnIn K f2 = true
/-- a def of the text that closes over its class alone -/
structure FunS (K : PySem.W.Frag) (x qual : Str) (st : Stmt) (f cda cc : Addr) (fd : FuncData) : Prop where
  ex : ∃ (oc : Value) (od : Option Addr) (kV doc pm : Value) (an : Option Addr) (ct : Value) (osl : Array (Option Value)),
    fd = PySem.W.ksFn x qual (defArgs st) (defBody st) (defScope st) .none kV doc pm an (.ref cda) ct cc ∧ K.lookup f = some ⟨oc, od, .func fd, osl⟩ ∧ PySem.W.codeIn K (.ref cda) qual = true
  kp : PySem.W.keepIn K (.ref f) = true
theorem SupK.of {fl : Str} {P : Program} (h : PrF fl P) {K : PySem.W.Frag} {mg : Str → Option Value} {x qual : Str} {st : Stmt} {f cda cc D f2 : Addr} {fd : FuncData} {sn : Str} (k : SupK K mg fl cda cc D f2) (F : FunS K x qual st f cda cc fd)
    (hp : (((defArgs st).posonlyargs ++ (defArgs st).args).head?.map (·.arg)) = some sn) : SupOf P K mg f cda cc D f2 sn := by
  obtain ⟨oc, od, kV, doc, pm, an, ct, osl, rfl, lk, hcd⟩ := F.ex
  obtain ⟨ar, ha, hs⟩ := Option.map_eq_some_iff.mp hp
  obtain ⟨c1, c2, vs, c4, tf, e1, e2⟩ := k.code
  exact ⟨⟨_, _, _, _, ar, lk, ha, hs⟩, ⟨c1, c2, vs, c4, fl, tf, e1, e2, h.file⟩, k.cell, k.cls, k.nosup, h.top, k.any, k.fn2, k.fi⟩
theorem FunS.okX {P : Program} {w : World} {K : PySem.W.Frag} {mg : Str → Option Value} {base : Heap} {fl x qual : Str} {st : Stmt} {f cda cc D f2 : Addr} {fd : FuncData} {N ps : List Str} {k : Nat} {sp : Sp} (F : FunS K x qual st f cda cc fd) (S : SupScope N ps (defScope st)) (sk : SupK K mg fl cda cc D f2)
    (len : ∀ vs H Q E, sp vs H Q E → vs.length = ps.length)
    (hbody : ∀ (A : Around) (outer : List Env) (s : Shared) (H : Hp) (vs : List V) (Q : VK) (E : XK), Room k (A.deeper (PySem.W.ksEnv qual (defScope st) s.heap.objs.size f (.ref cda) cc)) → sp vs H Q E →
      ∃ t, PSup (cxS (L2.CX P w) P w K mg base N qual (defScope st) f (.ref cda) cc A outer s H E) (defBody st) (defBody st) t ∧ t { nx := fun _ H' => Q .non H', rt := Q } (start N vs) H) : FnOk P w K mg base (L2.CX P w) (k + 1) f fd ps sp := by
  obtain ⟨oc, od, kV, doc, pm, an, ct, osl, rfl, lk, hcd⟩ := F.ex
  obtain ⟨c1, c2, c3, hcc⟩ := sk.cell
  exact fn_sup lk hcd S hcc rfl len hbody
theorem FunS.binds {K : PySem.W.Frag} {x qual : Str} {st : Stmt} {f cda cc : Addr} {fd : FuncData} {ps : List Str} (F : FunS K x qual st f cda cc fd)
    (h : ∀ (kV doc pm : Value) (an : Option Addr) (ct : Value) (us : List Value), us.length = ps.length → bindArgs (PySem.W.ksFn x qual (defArgs st) (defBody st) (defScope st) .none kV doc pm an (.ref cda) ct cc) ⟨us, []⟩ = pure (ps.zip us)) : Binds K fd ps [] := by
  obtain ⟨oc, od, kV, doc, pm, an, ct, osl, rfl, lk, hcd⟩ := F.ex
  exact .all (h kV doc pm an ct)
theorem funS_mk {K : PySem.W.Frag} {x qual : Str} {st : Stmt} {f cda cc : Addr} {oc : Value} {od an : Option Addr} {osl : Array (Option Value)} {kV doc pm ct : Value} (l : K.lookup f = some ⟨oc, od, .func (PySem.W.ksFn x qual (defArgs st) (defBody st) (defScope st) .none kV doc pm an (.ref cda) ct cc), osl⟩)
    (c : PySem.W.codeIn K (.ref cda) qual = true) (k : PySem.W.keepIn K (.ref f) = true) : FunS K x qual st f cda cc (PySem.W.ksFn x qual (defArgs st) (defBody st) (defScope st) .none kV doc pm an (.ref cda) ct cc) := ⟨⟨oc, od, kV, doc, pm, an, ct, osl, rfl, l, c⟩, k⟩
/-- .. of an instance of the class at C -/
structure SupAt (K : PySem.W.Frag) (C D f2 : Addr) (m : Str) : Prop where
  sub : PySem.W.mroIn K C (.ref D) = some true
  at_ : PySem.W.ks_superIn K C D m = some (some (.ref f2))
  cl : ∃ cd, PySem.W.clsIn K C = some cd
def tSup (K : PySem.W.Frag) (D f2 : Addr) (m : Str) (sp2 : Sp) (E : XK) (t : TA) : TS := fun Dn σ H => ∃ (x C dx : Addr) (fs : List (Str × V)), σ[0]? = some (some (V.ref x)) ∧ H x = some (.ins C dx fs) ∧ SupAt K C D f2 m ∧ t σ H fun vs H1 => sp2 (.ref x :: vs) H1 (fun _ H2 => Dn.nx σ H2) E
theorem psup_super {X : Cx} {whole : List Stmt} {CX : CXT} {k : Nat} {D f f2 cda cc : Addr} {sn m : Str} {sp2 : Sp} {E : XK} {e : Expr} {es : List Expr} {t : TA} {p0 p1 apos pos pos2 : Pos} {pl : Sem Bool}
    (so : SupOf X.prog X.K X.mg f cda cc D f2 sn) (F2 : FnR X.prog X.w X.K X.mg X.base CX k f2 sp2) (hr : Room k X.A) (hx : Passes CX X E) (ha : PA X (e :: es) t)
    (hfu : X.env.func = some f) (hco : X.env.code = .ref cda) (hcl : X.env.cells.lookup ("__class__" : Str) = some cc)
    (hks : X.env.kindOf "super" = some .globalImplicit) (hkc : X.env.kindOf "__class__" = some .free) (hk0 : X.env.kindOf sn = some .local) (hN : X.N[0]? = some sn) (hat : (m == ("__class__" : Str)) = false := by decide)
    (hboot : bootBuiltins "super" = some (.type "super") := by rfl)
    (hst : starEach (e :: es) X.env = (false, eval e X.env) :: starEach es X.env := by rfl) (hpl : (backTo pos (starEach es X.env)).any (·.1) = false := by rfl)
    (hs : swapsWith (.Call (.Attribute (.Call (.Name "super" p0) [] [] p1) m apos) (e :: es) [] pos) none pos2.line X.env = pure false := by rfl)
    (ht : eval (.Call (.Attribute (.Call (.Name "super" p0) [] [] p1) m apos) (e :: es) [] pos) X.env = (do
      let ov ← attributeBase (.Call (.Name "super" p0) [] [] p1) m X.env (eval (.Call (.Name "super" p0) [] [] p1) X.env)
      standAt apos.atName
      let (f, first) ← holding [ov] (getMethod ov m pl)
      callWith pos f first (backTo pos (starEach (e :: es) X.env)) []) := by rfl) :
    PSup X whole [.Expr (.Call (.Attribute (.Call (.Name "super" p0) [] [] p1) m apos) (e :: es) [] pos) pos2] (tSup X.K D f2 m sp2 E t) := by
  refine ⟨fun pins s σ H Dn I ⟨x, C, dx, fs, h0, hxa, sa, h⟩ => ?_⟩
  have sf := so.fn
  obtain ⟨oc, od, fd, osl, ar, hf, hp, rfl⟩ := sf
  obtain ⟨ccl, cdd, vs0, ccs, file, tf, hcode, hvs, hfile⟩ := so.code
  obtain ⟨cl, cld, csl, hcell⟩ := so.cell
  obtain ⟨cdD, hD⟩ := so.cls
  obtain ⟨cd, hc⟩ := sa.cl
  obtain ⟨oD, hD1, hD2⟩ : ∃ oD, s.heap.get? D = some oD ∧ oD.data = .cls cdD := by
    unfold PySem.W.clsIn at hD
    split at hD
    · rename_i c d cd' sl ho
      cases hD
      exact ⟨_, base_at I ho, rfl⟩
    · cases hD
  refine ks_wpAt_execs_cons (ks_wpAt_Expr_any (ks_wpAt_MethodCall (pl := pl) ?_ ht) I.quiet hs)
  refine ks_wpAt_super_base hks hkc hat hfu (base_at I hf) rfl hp hco (base_at I hcode) rfl hvs hfile so.top ?_
  obtain ⟨mb, b1, b2⟩ := I.mod.blt
  refine PySem.W.ks_loadName_global I.ok.kind hks (Calls.loadGlobal_builtin (by rw [I.ok.glob]; exact I.mod.glob.keeps I.bk) so.nosup (by rw [I.ok.blt]; exact b1.keeps I.bk) ((b2 "super" (by decide)).trans hboot) ⟨rfl, ?_⟩)
  refine wpAny_loadName_free I.ok.kind hkc hcl ⟨_, base_at I hcell, rfl⟩ ?_
  obtain ⟨mm, hn, hlk⟩ := I.loc
  obtain ⟨u, ru, lu⟩ := hlk 0 ar.arg (.ref x) hN h0 (.inl hk0)
  obtain rfl : u = Value.ref x := ru
  have hm : mm ar.arg = some (Value.ref x) := by
    rcases lu with ⟨_, q⟩ | ⟨q, _⟩
    · exact q
    · rw [hk0] at q
      rcases q with q | q <;> cases q
  refine wpAny_loadName_local I.ok.kind hk0 hn hm ?_
  refine ks_wpAny_isType_cls hD1 hD2 ⟨rfl, ?_⟩
  obtain ⟨mA, O, _, _, _, _⟩ := ins_get I.hok hxa
  obtain ⟨odx, J, _⟩ := O.look
  obtain ⟨hh, g, d, tt, os⟩ := s
  refine ks_wpAny_call_super hD1 hD2 J.at_ J.cls (fun c e => ?_) (PySem.W.looks_mroIn I.kIn sa.sub) (fun h' e k => ?_)
  · have := J.no
    unfold PySem.W.notCls at this
    rw [e] at this
    exact Bool.noConfusion this
  have I1 : Inv X ((hh.objs.size, PySem.W.ks_superObj D x C) :: pins) σ H ⟨h', g, d, tt, os⟩ := ClX.pin_new I k (Nat.le_refl _) e (fun v z => nomatch z)
  obtain ⟨mA', O', _, _, _, _⟩ := ins_get I1.hok hxa
  obtain ⟨odx', J', _⟩ := O'.look
  obtain ⟨of, hof, hofc⟩ : ∃ of, h'.get? f2 = some of ∧ of.cls = .type "function" := by
    have ht' : (X.K.lookup f2).map (·.cls) = some (.type "function") := so.fn2
    cases z : X.K.lookup f2 with
    | none => rw [z] at ht'; cases ht'
    | some of => rw [z] at ht'; exact ⟨of, base_at I1 z, Option.some.inj ht'⟩
  have hm2 := sa.at_
  unfold PySem.W.ks_superIn at hm2
  rw [hc] at hm2
  refine ks_wpAny_getMethod_super (ClX.pin_at I1) (PySem.W.looks_opaque I1.kIn so.any) (l₀ := cd.mro) (fun A Q E s k q => wpAny_bind ((PySem.W.looks_clsIn I1.kIn hc) A _ E s k (wpAny_pure q))) rfl I1.kIn hm2 hof hofc (PySem.W.ks_ne I1.kIn J' hc) hat ?_
  have I2 : Inv X ((h'.objs.size, PySem.W.methodObj (.ref f2) (.ref x)) :: (hh.objs.size, PySem.W.ks_superObj D x C) :: pins) σ H ⟨h'.push (PySem.W.methodObj (.ref f2) (.ref x)), g, d, tt + 1, os⟩ :=
    ClX.pin_new I1 (fun _ _ z => Heap.get?_push_of_some _ z) (Nat.le_refl _) (Heap.get?_push_size _ rfl) (fun v z => nomatch z)
  have hb : X.base.get? h'.objs.size = none := ClX.base_none I1 (Nat.le_refl _)
  have hL : h'.objs.size ≠ X.env.locals := (I2.pin (h'.objs.size, PySem.W.methodObj (.ref f2) (.ref x)) (List.mem_append_right _ List.mem_cons_self)).2.2.1
  refine PySem.W.callWith_M (K := X.K) (h₀ := X.base) (first := []) I.ok.mod.kin (news_at hL hb (ClX.pin_at I2)) List.mem_cons_self so.fi ?_ hst hpl
  refine thn (ha.run pos _ _ σ H _ I2 h) fun us s3 ⟨vs, H2, I3, rv, q2⟩ => ⟨⟨ClX.pin_at I3, I3.kIn⟩, ?_⟩
  refine thn (wpAny_call (PySem.W.method_call (ClX.pin_at I3) (run_fnR (us := .ref x :: us) (vs := .ref x :: vs) F2 hr hx I3 (.cons rfl rv) q2))) fun v s4 ⟨v', H4, I4, _, q4⟩ => ?_
  exact wpAt_of_wpAny (wpAny_execs_nil ⟨σ, H4, ClX.unpin (ClX.unpin I4), q4⟩)
end
end My

/-! ### decimal texts, their numbers; words and blanks -/
namespace NX
open PySem
/-- signs of a decimal number, written as it is: no sign ahead, no 0 ahead of another digit -/
def canon (a : List Nat) : Bool := !a.isEmpty && a.all (fun c => decide (48 ≤ c) && decide (c ≤ 57)) && (decide (a.head? ≠ some 48) || decide (a.length = 1))
theorem canon_ne {a : List Nat} (h : canon a = true) : a ≠ [] := by
  rintro rfl
  exact absurd h (by decide)
theorem canon_dig {a : List Nat} (h : canon a = true) : a.all (fun c => decide (48 ≤ c) && decide (c ≤ 57)) = true := by
  unfold canon at h
  rw [Bool.and_eq_true, Bool.and_eq_true] at h
  exact h.1.2
theorem canon_head {a : List Nat} (h : canon a = true) : a.head? ≠ some 48 ∨ a.length = 1 := by
  unfold canon at h
  rw [Bool.and_eq_true, Bool.or_eq_true] at h
  exact h.2.imp of_decide_eq_true of_decide_eq_true
theorem canon_mk {a : List Nat} (h1 : a ≠ []) (h2 : a.all (fun c => decide (48 ≤ c) && decide (c ≤ 57)) = true) (h3 : a.head? ≠ some 48 ∨ a.length = 1) : canon a = true := by
  unfold canon
  rw [h2, Bool.and_true, Bool.and_eq_true, Bool.or_eq_true]
  refine ⟨?_, h3.imp decide_eq_true decide_eq_true⟩
  cases a with
  | nil => exact absurd rfl h1
  | cons _ _ => rfl
theorem val_snoc (b : List Nat) (c : Nat) : NumText.digitsVal (b ++ [c]) = NumText.digitsVal b * 10 + (c - 48) := by
  unfold NumText.digitsVal
  rw [List.foldl_append]
  rfl
theorem numL0 : TL.numL 0 = [48] := TL.numL_lt (by decide)
theorem canon_num : ∀ (k : Nat) (a : List Nat), a.length = k → canon a = true → TL.numL (NumText.digitsVal a) = a := by
  intro k
  induction k with
  | zero => intro a hl h; exact absurd (List.length_eq_zero_iff.mp hl) (canon_ne h)
  | succ k ih =>
    intro a hl h
    rcases List.eq_nil_or_concat a with rfl | ⟨b, c, rfl⟩
    · exact absurd rfl (canon_ne h)
    · rw [List.concat_eq_append] at *
      have hd := canon_dig h
      rw [List.all_append, Bool.and_eq_true] at hd
      have hc : 48 ≤ c ∧ c ≤ 57 := by
        have := hd.2
        simp only [List.all_cons, List.all_nil, Bool.and_true, Bool.and_eq_true, decide_eq_true_eq] at this
        exact this
      rw [List.length_append, List.length_singleton] at hl
      cases b with
      | nil =>
        rw [List.nil_append, show NumText.digitsVal [c] = c - 48 from by unfold NumText.digitsVal; simp, TL.numL_lt (by omega)]
        congr 1
        omega
      | cons d b =>
        have hh : (d :: b).head? ≠ some 48 := by
          rcases canon_head h with z | z
          · simpa using z
          · rw [List.length_append] at z
            simp at z
        have hb : canon (d :: b) = true := canon_mk (by simp) hd.1 (.inl hh)
        have e := ih (d :: b) (by omega) hb
        have pos : 1 ≤ NumText.digitsVal (d :: b) := by
          rcases Nat.eq_zero_or_pos (NumText.digitsVal (d :: b)) with z | z
          · rw [z, numL0] at e
            rw [← e] at hh
            exact absurd rfl hh
          · exact z
        rw [val_snoc, TL.numL_step (by omega), show (NumText.digitsVal (d :: b) * 10 + (c - 48)) / 10 = NumText.digitsVal (d :: b) by omega, show (NumText.digitsVal (d :: b) * 10 + (c - 48)) % 10 = c - 48 by omega, e]
        congr 2
        omega
theorem canon_eq {a : List Nat} (h : canon a = true) : TL.numL (NumText.digitsVal a) = a := canon_num _ a rfl h
theorem numL_canon (n : Nat) : canon (TL.numL n) = true := by
  refine canon_mk (TL.numL_ne n) ?_ ?_
  · rw [List.all_eq_true]
    intro c hc
    have := TL.numL_digits n c hc
    simp only [Bool.and_eq_true, decide_eq_true_eq]
    exact this
  · induction n using Nat.strongRecOn with
    | _ n ih =>
      rcases Nat.lt_or_ge n 10 with h | h
      · right; rw [TL.numL_lt h]; rfl
      · left
        rw [TL.numL_step h]
        have ne := TL.numL_ne (n / 10)
        have e : (TL.numL (n / 10) ++ [48 + n % 10]).head? = (TL.numL (n / 10)).head? := by
          cases q : TL.numL (n / 10) with
          | nil => exact absurd q ne
          | cons _ _ => rfl
        rw [e]
        rcases ih (n / 10) (by omega) with z | z
        · exact z
        · intro w
          have l1 : TL.numL (n / 10) = [48] := by
            cases q : TL.numL (n / 10) with
            | nil => exact absurd q ne
            | cons x y =>
              rw [q] at z w
              cases y with
              | nil => cases w; rfl
              | cons _ _ => simp at z
          have v := TL.numL_val (n / 10)
          rw [l1] at v
          have v0 : NumText.digitsVal [48] = 0 := by decide
          omega
/-- what such a text of more than 13 digits is worth -/
theorem canon_great {a : List Nat} (h : canon a = true) (hl : 13 < a.length) : 10 ^ 13 ≤ NumText.digitsVal a := by
  rcases Nat.lt_or_ge (NumText.digitsVal a) (10 ^ 13) with z | z
  · have := TL.numL_len (k := 13) (by decide) z
    rw [canon_eq h] at this
    omega
  · exact z
end NX

/-! ### words of a wheel's text -/
namespace NX
open PySem
def num (i : Int) : Str := Str.ofString (toString i)
theorem num_nat (n : Nat) : num (n : Int) = ⟨(TL.numL n).toArray⟩ := TL.ext_tl (TL.tl_num n)
theorem tl_num (n : Nat) : TL.tl (num (n : Int)) = TL.numL n := TL.tl_num n
/-- the number of a word, if it is one -/
def numG (w : Str) : Option Int := if canon (TL.tl w) = true ∧ (TL.tl w).length ≤ 120 then some (NumText.digitsVal (TL.tl w) : Nat) else Option.none
theorem numG_eq {w : Str} {n : Int} (h : numG w = some n) : w = num n ∧ 0 ≤ n := by
  unfold numG at h
  split at h
  · rename_i c
    cases h
    exact ⟨TL.ext_tl (by rw [tl_num, canon_eq c.1]), Int.natCast_nonneg _⟩
  · cases h
theorem numG_num {n : Int} (h0 : 0 ≤ n) (h1 : n ≤ 1000000000000) : numG (num n) = some n := by
  obtain ⟨m, rfl⟩ := Int.eq_ofNat_of_zero_le h0
  have hm : m < 10 ^ 13 := by omega
  unfold numG
  rw [tl_num, if_pos ⟨numL_canon m, Nat.le_trans (TL.numL_len (by decide) hm) (by decide)⟩, TL.numL_val]
/-- .. within bounds -/
def tkV (lo : Int) (w : Str) : Option Int := match numG w with
  | some n => if lo ≤ n ∧ n ≤ 1000000000000 then some n else Option.none
  | Option.none => Option.none
theorem tkV_eq {lo n : Int} {w : Str} (h : tkV lo w = some n) : w = num n ∧ 0 ≤ n ∧ lo ≤ n ∧ n ≤ 1000000000000 ∧ numG w = some n := by
  unfold tkV at h
  cases e : numG w with
  | none => rw [e] at h; cases h
  | some m =>
    rw [e] at h
    simp only at h
    split at h
    · rename_i c
      cases h
      exact ⟨(numG_eq e).1, (numG_eq e).2, c.1, c.2, rfl⟩
    · cases h
theorem tkV_num {lo n : Int} (h0 : 0 ≤ n) (hl : lo ≤ n) (h1 : n ≤ 1000000000000) : tkV lo (num n) = some n := by
  unfold tkV
  rw [numG_num h0 h1]
  simp only
  rw [if_pos ⟨hl, h1⟩]
def tk (ws : List Str) (i : Nat) (lo : Int) : Option Int := ws[i]?.bind (tkV lo)
theorem tk_eq {ws : List Str} {i : Nat} {lo n : Int} (h : tk ws i lo = some n) : 0 ≤ n ∧ lo ≤ n ∧ n ≤ 1000000000000 := by
  unfold tk at h
  cases q : ws[i]? with
  | none => rw [q] at h; cases h
  | some v =>
    rw [q] at h
    have := tkV_eq (w := v) h
    exact ⟨this.2.1, this.2.2.1, this.2.2.2.1⟩
/-- what the words tell: trust, period, back, ahead; or the first word that cannot stand -/
def readW (ws : List Str) : Except Nat (Bool × Int × Int × Int) :=
  if ws[0]? = some ("grid" : Str) then match tk ws 1 2 with
    | Option.none => .error 1
    | some p => if 2 < ws.length then .error 2 else .ok (true, p, 0, 0)
  else if ws[0]? = some ("wheel" : Str) then match tk ws 1 2 with
    | Option.none => .error 1
    | some p => match tk ws 2 0 with
      | Option.none => .error 2
      | some b => match tk ws 3 0 with
        | Option.none => .error 3
        | some a => if 4 < ws.length then .error 4 else .ok (false, p, b, a)
  else .error 0
/-- the same ahead of the question whether a word is left: the number of words that are taken too -/
def headW (ws : List Str) : Except Nat (Bool × Int × Int × Int × Nat) :=
  if ws[0]? = some ("grid" : Str) then match tk ws 1 2 with
    | Option.none => .error 1
    | some p => .ok (true, p, 0, 0, 2)
  else if ws[0]? = some ("wheel" : Str) then match tk ws 1 2 with
    | Option.none => .error 1
    | some p => match tk ws 2 0 with
      | Option.none => .error 2
      | some b => match tk ws 3 0 with
        | Option.none => .error 3
        | some a => .ok (false, p, b, a, 4)
  else .error 0
theorem readW_head (ws : List Str) : readW ws = match headW ws with
  | .error i => .error i
  | .ok (tr, p, b, a, n) => if n < ws.length then .error n else .ok (tr, p, b, a) := by
  unfold readW headW
  split
  · cases tk ws 1 2 <;> rfl
  · split
    · cases tk ws 1 2 with
      | none => rfl
      | some p =>
        cases tk ws 2 0 with
        | none => rfl
        | some b => cases tk ws 3 0 <;> rfl
    · rfl
def wwords (tr : Bool) (p b a : Int) : List Str := if tr = true then ["grid", num p] else ["wheel", num p, num b, num a]
def wtext (tr : Bool) (p b a : Int) : Str := if tr = true then "grid " ++ num p else "wheel " ++ num p ++ " " ++ num b ++ " " ++ num a
theorem join_words (tr : Bool) (p b a : Int) : Txt.join " " (wwords tr p b a) = wtext tr p b a := by
  refine TL.ext_tl ?_
  rw [TL.join_eq, TL.tl_join]
  cases tr with
  | true =>
    show TL.joinL _ _ = TL.tl (("grid " : Str) ++ num p)
    rw [TL.tl_append]
    simp only [wwords, if_true, List.map_cons, List.map_nil, TL.joinL]
    rfl
  | false =>
    show TL.joinL _ _ = TL.tl (("wheel " : Str) ++ num p ++ " " ++ num b ++ " " ++ num a)
    simp only [wwords, Bool.false_eq_true, if_false, List.map_cons, List.map_nil, TL.joinL, TL.tl_append]
    have e : TL.tl ("wheel " : Str) = TL.tl ("wheel" : Str) ++ TL.tl (" " : Str) := by decide
    rw [e]
    simp only [List.append_assoc]
theorem read_ok {ws : List Str} {tr : Bool} {p b a : Int} (h : readW ws = .ok (tr, p, b, a)) : ws = wwords tr p b a ∧ (2 ≤ p ∧ p ≤ 1000000000000) ∧ (0 ≤ b ∧ b ≤ 1000000000000) ∧ (0 ≤ a ∧ a ≤ 1000000000000) ∧ (tr = true → b = 0 ∧ a = 0) := by
  unfold readW at h
  split at h
  · rename_i h0
    cases e1 : tk ws 1 2 with
    | none => rw [e1] at h; cases h
    | some q =>
      rw [e1] at h
      simp only at h
      split at h
      · cases h
      · rename_i hl
        cases h
        match ws, h0, e1, hl with
        | [w0, w1], h0, e1, _ =>
          cases h0
          obtain ⟨rfl, z0, z1, z2, _⟩ := tkV_eq (w := w1) e1
          exact ⟨rfl, ⟨z1, z2⟩, ⟨by decide, by decide⟩, ⟨by decide, by decide⟩, fun _ => ⟨rfl, rfl⟩⟩
        | [w0], _, e1, _ => cases e1
        | _ :: _ :: _ :: _, _, _, hl => simp at hl
  · split at h
    · rename_i h0
      cases e1 : tk ws 1 2 with
      | none => rw [e1] at h; cases h
      | some q =>
        rw [e1] at h
        simp only at h
        cases e2 : tk ws 2 0 with
        | none => rw [e2] at h; cases h
        | some q2 =>
          rw [e2] at h
          simp only at h
          cases e3 : tk ws 3 0 with
          | none => rw [e3] at h; cases h
          | some q3 =>
            rw [e3] at h
            simp only at h
            split at h
            · cases h
            · rename_i hl
              cases h
              match ws, h0, e1, e2, e3, hl with
              | [w0, w1, w2, w3], h0, e1, e2, e3, _ =>
                cases h0
                obtain ⟨rfl, z0, z1, z2, _⟩ := tkV_eq (w := w1) e1
                obtain ⟨rfl, y0, y1, y2, _⟩ := tkV_eq (w := w2) e2
                obtain ⟨rfl, x0, x1, x2, _⟩ := tkV_eq (w := w3) e3
                exact ⟨rfl, ⟨z1, z2⟩, ⟨y0, y2⟩, ⟨x0, x2⟩, fun z => by cases z⟩
              | [w0], _, e1, _, _, _ => cases e1
              | [w0, w1], _, _, e2, _, _ => cases e2
              | [w0, w1, w2], _, _, _, e3, _ => cases e3
              | _ :: _ :: _ :: _ :: _ :: _, _, _, _, _, hl => simp at hl
    · cases h
theorem read_own {tr : Bool} {p b a : Int} (hp : 2 ≤ p ∧ p ≤ 1000000000000) (hb : 0 ≤ b ∧ b ≤ 1000000000000) (ha : 0 ≤ a ∧ a ≤ 1000000000000) (ht : tr = true → b = 0 ∧ a = 0) : readW (wwords tr p b a) = .ok (tr, p, b, a) := by
  have t1 : tkV 2 (num p) = some p := tkV_num (by omega) hp.1 hp.2
  cases tr with
  | true =>
    obtain ⟨rfl, rfl⟩ := ht rfl
    show readW ["grid", num p] = _
    unfold readW
    rw [if_pos (show ((["grid", num p] : List Str)[0]? = some ("grid" : Str)) from rfl), show tk ["grid", num p] 1 2 = some p from t1]
    rfl
  | false =>
    show readW ["wheel", num p, num b, num a] = _
    unfold readW
    rw [if_neg (show ¬ ((["wheel", num p, num b, num a] : List Str)[0]? = some ("grid" : Str)) from show ¬ (some ("wheel" : Str) = some ("grid" : Str)) by decide), if_pos (show ((["wheel", num p, num b, num a] : List Str)[0]? = some ("wheel" : Str)) from rfl), show tk ["wheel", num p, num b, num a] 1 2 = some p from t1, show tk ["wheel", num p, num b, num a] 2 0 = some b from tkV_num hb.1 hb.1 hb.2, show tk ["wheel", num p, num b, num a] 3 0 = some a from tkV_num ha.1 ha.1 ha.2]
    rfl
theorem num_free {n : Int} (h : 0 ≤ n) : 32 ∉ TL.tl (num n) := by
  obtain ⟨m, rfl⟩ := Int.eq_ofNat_of_zero_le h
  rw [tl_num]
  exact TL.numL_free (.inl (by decide))
theorem wwords_free {tr : Bool} {p b a : Int} (hp : 0 ≤ p) (hb : 0 ≤ b) (ha : 0 ≤ a) : ∀ w ∈ wwords tr p b a, 32 ∉ TL.tl w := by
  cases tr with
  | true =>
    intro w hw
    simp only [wwords, if_true, List.mem_cons, List.not_mem_nil, or_false] at hw
    rcases hw with rfl | rfl
    · decide
    · exact num_free hp
  | false =>
    intro w hw
    simp only [wwords, Bool.false_eq_true, if_false, List.mem_cons, List.not_mem_nil, or_false] at hw
    rcases hw with rfl | rfl | rfl | rfl
    · decide
    · exact num_free hp
    · exact num_free hb
    · exact num_free ha
theorem split_words {ws : List Str} (h : ws ≠ []) (hf : ∀ w ∈ ws, 32 ∉ TL.tl w) : Txt.split (Txt.join " " ws) " " = ws := by
  exact TL.split_join (y := " ") (s := 32) (S := []) (by decide) (by decide +kernel) h hf
theorem len_num {n : Int} (h0 : 0 ≤ n) (h1 : n ≤ 1000000000000) : (num n).length ≤ 13 := by
  obtain ⟨m, rfl⟩ := Int.eq_ofNat_of_zero_le h0
  rw [TL.len_tl, tl_num]
  exact TL.numL_len (by decide) (by omega)
/-- a digit text within bounds, of at most 13 digits -/
def figs (w : Str) (lo : Int) : Bool := canon (TL.tl w) && decide ((TL.tl w).length ≤ 13) && decide (lo ≤ (NumText.digitsVal (TL.tl w) : Nat)) && decide (((NumText.digitsVal (TL.tl w) : Nat) : Int) ≤ 1000000000000)
theorem figs_tk (w : Str) (lo : Int) : figs w lo = (tkV lo w).isSome := by
  unfold figs tkV numG
  by_cases hc : canon (TL.tl w) = true
  · by_cases hl : (TL.tl w).length ≤ 120
    · rw [if_pos ⟨hc, hl⟩, hc]
      simp only [Bool.true_and]
      by_cases hb : lo ≤ ((NumText.digitsVal (TL.tl w) : Nat) : Int) ∧ ((NumText.digitsVal (TL.tl w) : Nat) : Int) ≤ 1000000000000
      · rw [if_pos hb, decide_eq_true hb.1, decide_eq_true hb.2]
        have : (TL.tl w).length ≤ 13 := by
          rcases Nat.lt_or_ge 13 (TL.tl w).length with z | z
          · have := canon_great hc z
            omega
          · exact z
        rw [decide_eq_true this]
        rfl
      · rw [if_neg hb]
        rw [Bool.and_assoc]
        have : (decide (lo ≤ ((NumText.digitsVal (TL.tl w) : Nat) : Int)) && decide (((NumText.digitsVal (TL.tl w) : Nat) : Int) ≤ 1000000000000)) = false := by
          rw [← Bool.decide_and, decide_eq_false hb]
        rw [this, Bool.and_false]
        rfl
    · rw [if_neg (fun z => hl z.2), decide_eq_false (show ¬ (TL.tl w).length ≤ 13 by omega), Bool.and_false, Bool.false_and, Bool.false_and]
      rfl
  · rw [if_neg (fun z => hc z.1), Bool.eq_false_iff.mpr hc, Bool.false_and, Bool.false_and, Bool.false_and]
    rfl
/-- signs of a digit text, as Python's own tests tell them -/
theorem dig_ascii : ∀ c : Nat, c < 128 → Unicode.isDigit c = (decide (48 ≤ c) && decide (c ≤ 57)) := by decide +kernel
theorem ascii_digits (w : Str) : (Txt.isascii w && Txt.isdigit w) = (!(TL.tl w).isEmpty && (TL.tl w).all (fun c => decide (48 ≤ c) && decide (c ≤ 57))) := by
  unfold Txt.isascii Txt.isdigit
  rw [Bool.eq_iff_iff]
  simp only [Bool.and_eq_true, Array.all_eq_true', decide_eq_true_eq, List.all_eq_true, Bool.not_eq_true']
  have hl : w.length > 0 ↔ (TL.tl w).isEmpty = false := by
    rw [TL.len_tl]
    cases TL.tl w <;> simp
  have hm : ∀ c, c ∈ w.cps ↔ c ∈ TL.tl w := fun c => by simp [TL.tl]
  constructor
  · rintro ⟨h1, h2, h3⟩
    refine ⟨hl.mp h2, fun c hc => ?_⟩
    have a := h1 c ((hm c).mpr hc)
    have b := h3 c ((hm c).mpr hc)
    rw [dig_ascii c a] at b
    simpa using b
  · rintro ⟨h1, h2⟩
    refine ⟨fun c hc => ?_, hl.mpr h1, fun c hc => ?_⟩
    · have := h2 c ((hm c).mp hc)
      omega
    · have b := h2 c ((hm c).mp hc)
      rw [dig_ascii c (by omega)]
      simpa using b
theorem int_text {w : Str} (h : canon (TL.tl w) = true) (hl : (TL.tl w).length ≤ 4300) : intText? w = some ((NumText.digitsVal (TL.tl w) : Nat) : Int) := by
  have e := SX.int_S (canon_dig h) (canon_ne h) hl
  rw [show SX.S (TL.tl w) = w from TL.mk_tl w] at e
  exact e
/-- the words behind the first one are asked one by one -/
theorem readW_ls {ws : List Str} {ls : List Int} (h : (ws[0]? = some ("grid" : Str) ∧ ls = [2]) ∨ (ws[0]? = some ("wheel" : Str) ∧ ls = [2, 0, 0])) :
    (∀ (j : Nat) (lo : Int), ls[j]? = some lo → (∀ (i : Nat) (lo' : Int), i < j → ls[i]? = some lo' → (tk ws (i + 1) lo').isSome = true) → tk ws (j + 1) lo = Option.none → readW ws = .error (j + 1)) ∧
    ((∀ (i : Nat) (lo : Int), ls[i]? = some lo → (tk ws (i + 1) lo).isSome = true) → (ls.length + 1 < ws.length → readW ws = .error (ls.length + 1)) ∧ (¬ ls.length + 1 < ws.length → ∃ r, readW ws = .ok r)) := by
  rcases h with ⟨h0, rfl⟩ | ⟨h0, rfl⟩
  · refine ⟨fun j lo hj hb hn => ?_, fun ha => ?_⟩
    · match j, hj with
      | 0, hj =>
        cases hj
        unfold readW
        rw [if_pos h0, hn]
    · obtain ⟨p, hp⟩ := Option.isSome_iff_exists.mp (ha 0 2 rfl)
      have hp : tk ws 1 2 = some p := hp
      refine ⟨fun hl => ?_, fun hl => ?_⟩
      · unfold readW
        rw [if_pos h0, hp]
        simp only
        exact if_pos hl
      · refine ⟨(true, p, 0, 0), ?_⟩
        unfold readW
        rw [if_pos h0, hp]
        simp only
        exact if_neg hl
  · have hg : ¬ (ws[0]? = some ("grid" : Str)) := by rw [h0]; decide
    refine ⟨fun j lo hj hb hn => ?_, fun ha => ?_⟩
    · match j, hj with
      | 0, hj =>
        cases hj
        unfold readW
        rw [if_neg hg, if_pos h0, hn]
      | 1, hj =>
        cases hj
        obtain ⟨p, hp⟩ := Option.isSome_iff_exists.mp (hb 0 2 (by decide) rfl)
        have hp : tk ws 1 2 = some p := hp
        unfold readW
        rw [if_neg hg, if_pos h0, hp]
        simp only
        rw [hn]
      | 2, hj =>
        cases hj
        obtain ⟨p, hp⟩ := Option.isSome_iff_exists.mp (hb 0 2 (by decide) rfl)
        have hp : tk ws 1 2 = some p := hp
        obtain ⟨b, hb'⟩ := Option.isSome_iff_exists.mp (hb 1 0 (by decide) rfl)
        have hb' : tk ws 2 0 = some b := hb'
        unfold readW
        rw [if_neg hg, if_pos h0, hp]
        simp only
        rw [hb']
        simp only
        rw [hn]
    · obtain ⟨p, hp⟩ := Option.isSome_iff_exists.mp (ha 0 2 rfl)
      have hp : tk ws 1 2 = some p := hp
      obtain ⟨b, hb⟩ := Option.isSome_iff_exists.mp (ha 1 0 rfl)
      have hb : tk ws 2 0 = some b := hb
      obtain ⟨a, hc⟩ := Option.isSome_iff_exists.mp (ha 2 0 rfl)
      have hc : tk ws 3 0 = some a := hc
      refine ⟨fun hl => ?_, fun hl => ⟨(false, p, b, a), ?_⟩⟩
      · unfold readW
        rw [if_neg hg, if_pos h0, hp]
        simp only
        rw [hb]
        simp only
        rw [hc]
        simp only
        exact if_pos hl
      · unfold readW
        rw [if_neg hg, if_pos h0, hp]
        simp only
        rw [hb]
        simp only
        rw [hc]
        simp only
        exact if_neg hl
theorem readW_no {ws : List Str} (h1 : ws[0]? ≠ some ("wheel" : Str)) (h2 : ws[0]? ≠ some ("grid" : Str)) : readW ws = .error 0 := by
  unfold readW
  rw [if_neg h2, if_neg h1]
end NX

namespace My
open PySem PySem.Spec PyProof.Rows L2 StX
def top (i : Nat) : Stmt := PySem.Challenge.pw_wheelreach_k81_whole_shelves_led_back_an.main.body.getD i (.Pass ⟨0, 0, 0, 0⟩)
abbrev s_is_whole : Stmt := top 13
abbrev s_is_between : Stmt := top 14
abbrev s_is_name : Stmt := top 20
abbrev s_need_part : Stmt := top 27
abbrev s_with_item : Stmt := top 34
abbrev s_with_row : Stmt := top 35
abbrev s_pen : Stmt := top 37
abbrev s_draw : Stmt := top 38
abbrev s_pick : Stmt := top 39
abbrev s_name : Stmt := top 40
abbrev s_state : Stmt := top 41
abbrev s_with : Stmt := top 42
abbrev s_row : Stmt := top 43
abbrev s_deed : Stmt := top 44
abbrev s_step : Stmt := top 45
abbrev s_stands : Stmt := top 46
abbrev s_led : Stmt := top 47
abbrev s_walked : Stmt := top 48
abbrev s_same_right : Stmt := top 49
abbrev s_law : Stmt := top 50
abbrev s_BadWheel_init : Stmt := inClass (top 4) 0
abbrev s_BadShelf_init : Stmt := inClass (top 6) 0
abbrev s_BadDeed_init : Stmt := inClass (top 7) 0
abbrev s_NoName_init : Stmt := inClass (top 9) 0
abbrev s_TooMany_init : Stmt := inClass (top 11) 0
abbrev s_Wheel_init : Stmt := inClass (top 24) 1
abbrev s_Wheel_str : Stmt := inClass (top 24) 9
abbrev s_Exact_init : Stmt := inClass (top 25) 0
abbrev s_Grid_init : Stmt := inClass (top 26) 1
abbrev s_Shelf_init : Stmt := inClass (top 33) 0
abbrev s_Shelf_can_undo : Stmt := inClass (top 33) 1
abbrev s_Shelf_can_redo : Stmt := inClass (top 33) 2
abbrev s_Shelf_len : Stmt := inClass (top 33) 3
abbrev s_Shelf_iter : Stmt := inClass (top 33) 4
abbrev s_Shelf_contains : Stmt := inClass (top 33) 5
abbrev s_Shelf_getitem : Stmt := inClass (top 33) 6
abbrev s_Shelf_setitem : Stmt := inClass (top 33) 7
abbrev s_Shelf_drop : Stmt := inClass (top 33) 9
abbrev s_Shelf_stock : Stmt := inClass (top 33) 10
abbrev s_Shelf_done : Stmt := inClass (top 33) 11
abbrev s_Shelf_hold : Stmt := inClass (top 33) 12
abbrev s_Shelf_undo : Stmt := inClass (top 33) 13
abbrev s_Shelf_redo : Stmt := inClass (top 33) 14
abbrev s_Shelf_twin : Stmt := inClass (top 33) 17
abbrev lawFile : Str := PySem.Challenge.pw_wheelreach_k81_whole_shelves_led_back_an.main.file
theorem sc_is_whole : FnScope ["value"] ["value"] (defScope s_is_whole) := ⟨rfl, rfl, rfl, by decide +kernel, rfl, by decide +kernel, by decide +kernel⟩
theorem sc_is_between : FnScope ["value", "low", "high"] ["value", "low", "high"] (defScope s_is_between) := ⟨rfl, rfl, rfl, by decide +kernel, rfl, by decide +kernel, by decide +kernel⟩
theorem sc_is_name : FnScope ["value"] ["value"] (defScope s_is_name) := ⟨rfl, rfl, rfl, by decide +kernel, rfl, by decide +kernel, by decide +kernel⟩
theorem sc_need_part : FnScope ["value", "least", "part"] ["value", "least", "part"] (defScope s_need_part) := ⟨rfl, rfl, rfl, by decide +kernel, rfl, by decide +kernel, by decide +kernel⟩
theorem sc_with_item : FnScope ["items", "name", "item", "wheel", "price"] ["items", "name", "item"] (defScope s_with_item) := ⟨rfl, rfl, rfl, by decide +kernel, rfl, by decide +kernel, by decide +kernel⟩
theorem sc_with_row : FnScope ["items", "row", "name", "wheel", "price"] ["items", "row"] (defScope s_with_row) := ⟨rfl, rfl, rfl, by decide +kernel, rfl, by decide +kernel, by decide +kernel⟩
theorem sc_pen : FnScope ["_law_script"] ["_law_script"] (defScope s_pen) := ⟨rfl, rfl, rfl, by decide +kernel, rfl, by decide +kernel, by decide +kernel⟩
theorem sc_draw : FnScope ["_law_pen_here", "_law_many", "_law_digit", "_law_begun", "_law_lone", "_law_great", "_law_mixed"] ["_law_pen_here", "_law_many"] (defScope s_draw) := ⟨rfl, rfl, rfl, by decide +kernel, rfl, by decide +kernel, by decide +kernel⟩
theorem sc_pick : FnScope ["_law_pen_here", "_law_some"] ["_law_pen_here", "_law_some"] (defScope s_pick) := ⟨rfl, rfl, rfl, by decide +kernel, rfl, by decide +kernel, by decide +kernel⟩
theorem sc_name : FnScope ["_law_pen_here", "_law_word", "_law_lap"] ["_law_pen_here"] (defScope s_name) := ⟨rfl, rfl, rfl, by decide +kernel, rfl, by decide +kernel, by decide +kernel⟩
theorem sc_state : FnScope ["_law_shelf", "_law_name_here"] ["_law_shelf"] (defScope s_state) := ⟨rfl, rfl, rfl, by decide +kernel, rfl, by decide +kernel, by decide +kernel⟩
theorem sc_with : FnScope ["_law_state_here", "_law_row_here", "_law_old"] ["_law_state_here", "_law_row_here"] (defScope s_with) := ⟨rfl, rfl, rfl, by decide +kernel, rfl, by decide +kernel, by decide +kernel⟩
theorem sc_row : FnScope ["_law_pen_here", "_law_names", "_law_wheel"] ["_law_pen_here", "_law_names"] (defScope s_row) := ⟨rfl, rfl, rfl, by decide +kernel, rfl, by decide +kernel, by decide +kernel⟩
theorem sc_deed : FnScope ["_law_pen_here", "_law_shelf", "_law_names", "_law_state_here", "_law_way", "_law_first", "_law_last", "e", "_law_row_here"] ["_law_pen_here", "_law_shelf", "_law_names"] (defScope s_deed) := ⟨rfl, rfl, rfl, by decide +kernel, rfl, by decide +kernel, by decide +kernel⟩
theorem sc_step : FnScope ["_law_shelf", "_law_way", "_law_told", "e"] ["_law_shelf", "_law_way"] (defScope s_step) := ⟨rfl, rfl, rfl, by decide +kernel, rfl, by decide +kernel, by decide +kernel⟩
theorem sc_stands : FnScope ["_law_shelf", "_law_states", "_law_at", "_law_counts"] ["_law_shelf", "_law_states", "_law_at"] (defScope s_stands) := ⟨rfl, rfl, rfl, by decide +kernel, rfl, by decide +kernel, by decide +kernel⟩
theorem sc_led : FnScope ["_law_pen_here", "_law_shelf", "_law_names", "_law_states", "_law_at", "_law_lap", "_law_way", "_law_step_here", "_law_end", "_law_state_here"] ["_law_pen_here", "_law_shelf", "_law_names", "_law_states", "_law_at"] (defScope s_led) := ⟨rfl, rfl, rfl, by decide +kernel, rfl, by decide +kernel, by decide +kernel⟩
theorem sc_walked : FnScope ["_law_shelf", "_law_states", "_law_at", "_law_end", "_law_ways", "_law_k", "_law_way", "_law_place"] ["_law_shelf", "_law_states", "_law_at"] (defScope s_walked) := ⟨rfl, rfl, rfl, by decide +kernel, rfl, by decide +kernel, by decide +kernel⟩
theorem sc_same_right : FnScope ["_law_shelf", "_law_state_here", "_law_many"] ["_law_shelf"] (defScope s_same_right) := ⟨rfl, rfl, rfl, by decide +kernel, rfl, by decide +kernel, by decide +kernel⟩
theorem sc_law : FnScope ["_law_script", "_law_pen_here", "_law_lap", "_law_shelf", "_law_names", "_law_states", "_law_turn", "_law_at", "_law_twin", "_law_own", "_law_state_here", "_law_place"] ["_law_script"] (defScope s_law) := ⟨rfl, rfl, rfl, by decide +kernel, rfl, by decide +kernel, by decide +kernel⟩
theorem sc_BadWheel_init : FnScope ["self", "part"] ["self", "part"] (defScope s_BadWheel_init) := ⟨rfl, rfl, rfl, by decide +kernel, rfl, by decide +kernel, by decide +kernel⟩
theorem sc_BadShelf_init : FnScope ["self", "part"] ["self", "part"] (defScope s_BadShelf_init) := ⟨rfl, rfl, rfl, by decide +kernel, rfl, by decide +kernel, by decide +kernel⟩
theorem sc_BadDeed_init : FnScope ["self", "at"] ["self", "at"] (defScope s_BadDeed_init) := ⟨rfl, rfl, rfl, by decide +kernel, rfl, by decide +kernel, by decide +kernel⟩
theorem sc_NoName_init : FnScope ["self", "name"] ["self", "name"] (defScope s_NoName_init) := ⟨rfl, rfl, rfl, by decide +kernel, rfl, by decide +kernel, by decide +kernel⟩
theorem sc_TooMany_init : FnScope ["self", "what", "most"] ["self", "what", "most"] (defScope s_TooMany_init) := ⟨rfl, rfl, rfl, by decide +kernel, rfl, by decide +kernel, by decide +kernel⟩
theorem sc_Wheel_init : FnScope ["self", "period", "back", "ahead"] ["self", "period", "back", "ahead"] (defScope s_Wheel_init) := ⟨rfl, rfl, rfl, by decide +kernel, rfl, by decide +kernel, by decide +kernel⟩
theorem sc_Wheel_str : FnScope ["self"] ["self"] (defScope s_Wheel_str) := ⟨rfl, rfl, rfl, by decide +kernel, rfl, by decide +kernel, by decide +kernel⟩
theorem sc_Exact_init : SupScope ["self", "period"] ["self", "period"] (defScope s_Exact_init) := ⟨rfl, rfl, rfl, by decide +kernel, rfl, by decide +kernel, by decide +kernel, by decide +kernel⟩
theorem sc_Grid_init : SupScope ["self", "period"] ["self", "period"] (defScope s_Grid_init) := ⟨rfl, rfl, rfl, by decide +kernel, rfl, by decide +kernel, by decide +kernel, by decide +kernel⟩
theorem sc_Shelf_init : FnScope ["self"] ["self"] (defScope s_Shelf_init) := ⟨rfl, rfl, rfl, by decide +kernel, rfl, by decide +kernel, by decide +kernel⟩
theorem sc_Shelf_can_undo : FnScope ["self"] ["self"] (defScope s_Shelf_can_undo) := ⟨rfl, rfl, rfl, by decide +kernel, rfl, by decide +kernel, by decide +kernel⟩
theorem sc_Shelf_can_redo : FnScope ["self"] ["self"] (defScope s_Shelf_can_redo) := ⟨rfl, rfl, rfl, by decide +kernel, rfl, by decide +kernel, by decide +kernel⟩
theorem sc_Shelf_len : FnScope ["self"] ["self"] (defScope s_Shelf_len) := ⟨rfl, rfl, rfl, by decide +kernel, rfl, by decide +kernel, by decide +kernel⟩
theorem sc_Shelf_iter : FnScope ["self"] ["self"] (defScope s_Shelf_iter) := ⟨rfl, rfl, rfl, by decide +kernel, rfl, by decide +kernel, by decide +kernel⟩
theorem sc_Shelf_contains : FnScope ["self", "value"] ["self", "value"] (defScope s_Shelf_contains) := ⟨rfl, rfl, rfl, by decide +kernel, rfl, by decide +kernel, by decide +kernel⟩
theorem sc_Shelf_getitem : FnScope ["self", "at"] ["self", "at"] (defScope s_Shelf_getitem) := ⟨rfl, rfl, rfl, by decide +kernel, rfl, by decide +kernel, by decide +kernel⟩
theorem sc_Shelf_setitem : FnScope ["self", "at", "worth"] ["self", "at", "worth"] (defScope s_Shelf_setitem) := ⟨rfl, rfl, rfl, by decide +kernel, rfl, by decide +kernel, by decide +kernel⟩
theorem sc_Shelf_drop : FnScope ["self", "name", "other"] ["self", "name"] (defScope s_Shelf_drop) := ⟨rfl, rfl, rfl, by decide +kernel, rfl, by decide +kernel, by decide +kernel⟩
theorem sc_Shelf_stock : FnScope ["self", "rows", "items", "at", "row", "why"] ["self", "rows"] (defScope s_Shelf_stock) := ⟨rfl, rfl, rfl, by decide +kernel, rfl, by decide +kernel, by decide +kernel⟩
theorem sc_Shelf_done : FnScope ["self", "items"] ["self", "items"] (defScope s_Shelf_done) := ⟨rfl, rfl, rfl, by decide +kernel, rfl, by decide +kernel, by decide +kernel⟩
theorem sc_Shelf_hold : FnScope ["self", "items"] ["self", "items"] (defScope s_Shelf_hold) := ⟨rfl, rfl, rfl, by decide +kernel, rfl, by decide +kernel, by decide +kernel⟩
theorem sc_Shelf_undo : FnScope ["self"] ["self"] (defScope s_Shelf_undo) := ⟨rfl, rfl, rfl, by decide +kernel, rfl, by decide +kernel, by decide +kernel⟩
theorem sc_Shelf_redo : FnScope ["self"] ["self"] (defScope s_Shelf_redo) := ⟨rfl, rfl, rfl, by decide +kernel, rfl, by decide +kernel, by decide +kernel⟩
theorem sc_Shelf_twin : FnScope ["self", "shelf"] ["self"] (defScope s_Shelf_twin) := ⟨rfl, rfl, rfl, by decide +kernel, rfl, by decide +kernel, by decide +kernel⟩
section
variable {P : Program} {w : World} {K : PySem.W.Frag} {mg : Str → Option Value} {base : Heap}
/-! ### rules and words of our own -/
/-- x(e, ..), x a def whose promise is told of the arguments as they are passed -/
theorem pe_callR {X : Cx} {CX : CXT} {k : Nat} {f : Addr} {sp : Sp} {E : XK} {x : Str} {e : Expr} {es : List Expr} {t : TA} {p pos : Pos} (F : FnR X.prog X.w X.K X.mg X.base CX k f sp) (hr : Room k X.A) (hk : PySem.W.keepIn X.K (.ref f) = true) (hg : Gl X x) (hm : X.mg x = some (.ref f)) (hx : Passes CX X E)
    (ha : PA X (e :: es) t) (hd : (x == ("__debug__" : Str)) = false := by decide) (he : starEach (e :: es) X.env = (false, eval e X.env) :: starEach es X.env := by rfl) (hpl : (backTo pos (starEach es X.env)).any (·.1) = false := by rfl) :
    PE X (.Call (.Name x p) (e :: es) [] pos) (fun σ H Q => t σ H fun vs H1 => sp vs H1 Q E) := by
  refine ⟨fun pins s σ H Q I h => ?_⟩
  refine wpAny_Call_Name_kw (ld_glob I hg hm ?_ hd)
  refine PySem.W.callWith_K (h₀ := X.base) I.ok.mod.kin hk (thn (ha.run pos pins s σ H _ I h) fun us s1 ⟨vs, H1, I1, r, q⟩ => ⟨I1.kIn, ?_⟩) he hpl
  exact wpAny_call (run_fnR F hr hx I1 r q)
theorem pe_callR0 {X : Cx} {CX : CXT} {k : Nat} {f : Addr} {sp : Sp} {E : XK} {x : Str} {p pos : Pos} (F : FnR X.prog X.w X.K X.mg X.base CX k f sp) (hr : Room k X.A) (hk : PySem.W.keepIn X.K (.ref f) = true) (hg : Gl X x) (hm : X.mg x = some (.ref f)) (hx : Passes CX X E)
    (hd : (x == ("__debug__" : Str)) = false := by decide) : PE X (.Call (.Name x p) [] [] pos) (fun σ H Q => sp [] H Q E) := by
  refine ⟨fun pins s σ H Q I h => ?_⟩
  refine wpAny_Call_Name_kw (ld_glob I hg hm ?_ hd)
  exact PySem.W.callWith_K0 I.kIn hk (wpAny_call (run_fnR (us := []) F hr hx I .nil h))
/-- def f(*v) of the text -/
theorem star_ok {P : Program} {w : World} {K : PySem.W.Frag} {mg : Str → Option Value} {base : Heap} {k : Nat} {x qual pv : Str} {st : Stmt} {f : Addr} {fd : FuncData} {N : List Str} {sp : List V → Hp → VK → XK → Prop}
    (F : Fun K x qual st f fd) (S : FnScope N [pv] (defScope st))
    (hb : ∀ (kV doc pm : Value) (an : Option Addr) (cdv ct : Value) (rest : List Value), bindArgs (PySem.W.fnOf x qual (defArgs st) (defBody st) (defScope st) .none kV doc pm an cdv ct) ⟨rest, []⟩ = (newTuple rest >>= fun t => pure [(pv, t)]))
    (hbody : ∀ (cdv : Value) (A : Around) (outer : List Env) (s : Shared) (H : Hp) (vs : List V) (p : Addr) (H0 : Hp) (Q : VK) (E : XK), Room k (A.deeper (envOfC qual (defScope st) s.heap.objs.size f cdv)) → sp vs H0 Q E → vs.length ≤ sizeLine → H0 p = Option.none → H = upd H0 p (.tup vs) →
      ∃ t, PSs (cxOf CX0 P w K mg base N qual (defScope st) f cdv A outer s H E).nox (defBody st) t ∧ t { nx := fun _ H' => Q .non H', rt := Q } (start N [V.ref p]) H) :
    FnR P w K mg base CX0 (k + 1) f (fun vs H Q E => vs.length ≤ sizeLine ∧ sp vs H Q E) := by
  obtain ⟨oc, od, kV, doc, pm, an, cdv, ct, osl, rfl, lk, hcd⟩ := F.ex
  refine FnR.imp (fn_star (ps := []) (pv := pv) (CX := CX0) (sp := fun ws H Q E => ∃ (vs : List V) (p : Addr) (H0 : Hp), ws = [V.ref p] ∧ sp vs H0 Q E ∧ vs.length ≤ sizeLine ∧ H0 p = Option.none ∧ H = upd H0 p (.tup vs)) lk hcd S cxUp_none (fun us rest hl => ?_) fun A outer s H vs Q E hr h => ?_) fun vs H Q E h => ?_
  · have e : us = [] := List.length_eq_zero_iff.mp hl
    subst e
    show bindArgs _ ⟨rest, []⟩ = _
    rw [hb]
    rfl
  · obtain ⟨ws, p, H0, rfl, hs, hl, hp, rfl⟩ := h
    obtain ⟨t, ht, hq⟩ := hbody cdv A outer s _ ws p H0 Q E hr hs hl hp rfl
    exact ⟨t, ht.nox, hq⟩
  · exact ⟨[], vs, rfl, rfl, h.1, fun p hp => ⟨vs, p, H, rfl, h.2, h.1, hp, rfl⟩⟩
/-- all but p is as it was -/
structure Fr (p : Addr) (H H' : Hp) : Prop where
  keep : ∀ b o, b ≠ p → H b = some o → H' b = some o
  head : ∀ v xs, H p = some (.lst (v :: xs)) → ∃ ys, H' p = some (.lst (v :: ys))
instance {p : Addr} {H H' : Hp} : CoeFun (Fr p H H') fun _ => ∀ b o, b ≠ p → H b = some o → H' b = some o := ⟨Fr.keep⟩
theorem Fr.refl (p : Addr) (H : Hp) : Fr p H H := ⟨fun _ _ _ h => h, fun _ xs h => ⟨xs, h⟩⟩
theorem Fr.trans {p : Addr} {H H1 H2 : Hp} (a : Fr p H H1) (b : Fr p H1 H2) : Fr p H H2 := ⟨fun c o n h => b.keep c o n (a.keep c o n h), fun v xs h => by
  obtain ⟨ys, h1⟩ := a.head v xs h
  exact b.head v ys h1⟩
theorem same_fr {p : Addr} {H H' : Hp} (s : Same H H') : Fr p H H' := ⟨fun b o _ h => s b o h, fun _ xs h => ⟨xs, s _ _ h⟩⟩
theorem same_new {H : Hp} {p : Addr} {o : HO} (h : H p = Option.none) : Same H (upd H p o) := fun b u e => by
  rw [upd_ne (ne_of_none e h)]; exact e
theorem fr_upd {H : Hp} {p : Addr} {v : V} {xs ys : List V} (hp : H p = some (.lst (v :: xs))) : Fr p H (upd H p (.lst (v :: ys))) := ⟨fun b u n e => by rw [upd_ne n]; exact e, fun v' xs' e => by
  rw [hp] at e
  cases e
  exact ⟨ys, upd_same⟩⟩
theorem Fr.seq {K : PySem.W.Frag} {p a : Addr} {H H' : Hp} {xs : List V} (e : Fr p H H') (n : a ≠ p) (h : SqL K H a xs) : SqL K H' a xs := by
  rcases h with (h | ⟨o, h⟩) | h
  · exact .inl (.inl (e _ _ n h))
  · exact .inl (.inr ⟨o, e _ _ n h⟩)
  · exact .inr h
/-- the state of the draws: the cells, the index, what is left of a great one -/
def Pen (H : Hp) (p : Addr) (n : Nat) : Prop := ∃ (c : Addr) (ns : List Int) (i g : Int), H p = some (.lst [.ref c, .int i, .int g]) ∧ H c = some (.lst (ns.map V.int)) ∧ 0 ≤ i ∧ i ≤ (n : Int) ∧ 0 ≤ g ∧ ns.length ≤ 63
theorem Pen.same {H H' : Hp} {p : Addr} {n : Nat} (h : Pen H p n) (s : Same H H') : Pen H' p n := by
  obtain ⟨c, ns, i, g, h1, h2, h3⟩ := h
  exact ⟨c, ns, i, g, s _ _ h1, s _ _ h2, h3⟩
theorem Pen.mono {H : Hp} {p : Addr} {n m : Nat} (h : Pen H p n) (l : n ≤ m) : Pen H p m := by
  obtain ⟨c, ns, i, g, h1, h2, h3, h4, h5⟩ := h
  exact ⟨c, ns, i, g, h1, h2, h3, by omega, h5⟩
theorem pen_ne {H : Hp} {p c : Addr} {x y : V} {a : Addr} {ns : List Int} (h1 : H p = some (.lst [.ref a, x, y])) (h2 : H c = some (.lst (ns.map V.int))) : c ≠ p := fun e => by
  rw [e, h1] at h2
  cases ns with
  | nil => cases h2
  | cons z r => injection h2 with h2; injection h2 with h2; injection h2 with h2; cases h2
theorem Pen.at {H : Hp} {p : Addr} {n : Nat} (h : Pen H p n) : ∃ xs, H p = some (.lst xs) := by
  obtain ⟨c, ns, i, g, h1, _⟩ := h
  exact ⟨_, h1⟩
theorem Pen.neq {H : Hp} {p a : Addr} {n : Nat} (h : Pen H p n) (e : H a = Option.none) : a ≠ p := fun z => by
  obtain ⟨xs, h⟩ := h.at
  rw [z, h] at e; cases e
theorem if_true_of {c : Bool} {A B : Prop} (hc : c = true) (h : A) : if c = true then A else B := by
  rw [if_pos hc]; exact h
theorem if_false_of {c : Bool} {A B : Prop} (hc : c = false) (h : B) : if c = true then A else B := by
  rw [hc, if_neg Bool.false_ne_true]; exact h
theorem atI_in {ns : List Int} {j : Int} (h0 : 0 ≤ j) (h1 : j < (ns.length : Int)) : ∃ z, atI (ns.map V.int) j = some (V.int z) := by
  have h : j.toNat < ns.length := by omega
  exact ⟨ns[j.toNat], at_of (j := j.toNat) (by omega) (by rw [List.getElem?_map]; simp [h])⟩
theorem atI_any {xs : List V} {j : Int} (h0 : 0 ≤ j) (h1 : j < (xs.length : Int)) : ∃ z, z ∈ xs ∧ atI xs j = some z := by
  have h : j.toNat < xs.length := by omega
  exact ⟨xs[j.toNat], List.getElem_mem h, at_of (j := j.toNat) (by omega) (by simp [h])⟩
theorem cut_ints (ns : List Int) (lo hi : Option Int) : ∃ ms : List Int, cutV (ns.map V.int) lo hi = ms.map V.int ∧ ms.length ≤ ns.length := by
  refine ⟨(ns.drop (HT.sIx (ns.map V.int).length 0 lo)).take (HT.sIx (ns.map V.int).length (ns.map V.int).length hi - HT.sIx (ns.map V.int).length 0 lo), ?_, ?_⟩
  · unfold cutV
    rw [List.map_take, List.map_drop]
  · rw [List.length_take, List.length_drop]
    omega
theorem stir1 {r b d e : Int} (h0 : 0 ≤ r) (h1 : r < 2147483648) (b0 : 0 ≤ b) (b1 : b ≤ 100000) (d0 : 0 ≤ d) (d1 : d ≤ 100000) (e0 : 0 ≤ e) (e1 : e ≤ 100000) : (r + d * b + e).natAbs < 2 ^ 64 := by
  have h2 := Int.mul_nonneg d0 b0
  have h3 : d * b ≤ d * 100000 := Int.mul_le_mul_of_nonneg_left b1 d0
  omega
theorem stir2 {s b c d e : Int} (h0 : 0 ≤ s) (h1 : s < 2147483648) (b0 : 0 ≤ b) (b1 : b ≤ 100000) (c0 : 0 ≤ c) (c1 : c ≤ 100000) (d0 : 0 ≤ d) (d1 : d ≤ 100000) (e0 : 0 ≤ e) (e1 : e ≤ 100000) : (s * (2 * b + c) + d * b * b + e).natAbs < 2 ^ 64 := by
  have h2 := Int.mul_nonneg h0 (show 0 ≤ 2 * b + c by omega)
  have h3 : s * (2 * b + c) ≤ 2147483648 * (2 * b + c) := Int.mul_le_mul_of_nonneg_right (by omega) (by omega)
  have h4 := Int.mul_nonneg d0 b0
  have h5 := Int.mul_nonneg h4 b0
  have h6 : d * b ≤ d * 100000 := Int.mul_le_mul_of_nonneg_left b1 d0
  have h7 : d * b * b ≤ d * b * 100000 := Int.mul_le_mul_of_nonneg_left b1 h4
  omega
theorem small64 {i : Int} (h0 : 0 ≤ i) (h1 : i < 2147483648) : -(2 ^ 64) < i ∧ i < 2 ^ 64 := by omega
theorem fmod_pos {x m : Int} (hm : 0 < m) : 0 ≤ x.fmod m ∧ x.fmod m < m := by
  rw [Int.fmod_eq_emod_of_nonneg x (by omega)]
  exact ⟨Int.emod_nonneg _ (by omega), Int.emod_lt_of_pos _ hm⟩
theorem dp_ints {K : PySem.W.Frag} {H : Hp} : ∀ ns : List Int, DpAll K H (ns.map V.int) (ns.map PyData.int)
  | [] => .nil
  | z :: r => .cons (.int z) (dp_ints r)
theorem eqvAll_ints : ∀ ns : List Int, PyData.eqvAll (ns.map PyData.int) (ns.map PyData.int) = true
  | [] => by simp [PyData.eqvAll]
  | z :: r => by simp [PyData.eqvAll, PyData.eqv, eqvAll_ints r]
theorem eqv_ints (ns : List Int) : PyData.eqv (.list (ns.map PyData.int)) (.list (ns.map PyData.int)) = true := by
  rw [PyData.eqv]; exact eqvAll_ints ns

/-! ### defs told for callers around whom nothing is being shown by repr -/
def FnG (P : Program) (w : World) (K : PySem.W.Frag) (mg : Str → Option Value) (base : Heap) (CX : CXT) (k : Nat) (f : Addr) (sp : Sp) : Prop :=
  ∀ (A : Around) (outer : List Env) (s : Shared) (H : Hp) (us : List Value) (vs : List V) (Q : VK) (E : XK), A.guards = some [] → Room k A → Env0 P w K mg base A outer s H → Vals vs us → sp vs H Q E →
    codeAny (model P w) A (.call (.ref f) { pos := us, kw := [] }) (CR CX outer P w H s Q E) s
theorem FnG.of {P : Program} {w : World} {K : PySem.W.Frag} {mg : Str → Option Value} {base : Heap} {CX : CXT} {k : Nat} {f : Addr} {sp : Sp} (F : FnR P w K mg base CX k f sp) : FnG P w K mg base CX k f sp :=
  fun A o s H us vs Q E _ hr => F A o s H us vs Q E hr
theorem FnG.mk {P : Program} {w : World} {K : PySem.W.Frag} {mg : Str → Option Value} {base : Heap} {CX : CXT} {k : Nat} {x qual : Str} {st : Stmt} {f : Addr} {fd : FuncData} {N ps : List Str} {sp : Sp}
    (F : Fun K x qual st f fd) (S : FnScope N ps (defScope st)) (B : Binds K fd ps []) (len : ∀ vs H Q E, sp vs H Q E → vs.length = ps.length)
    (go : ∀ (cdv : Value) (A : Around) (outer : List Env) (s : Shared) (H : Hp) (vs : List V) (Q : VK) (E : XK), (A.deeper (envOfC qual (defScope st) s.heap.objs.size f cdv)).guards = some [] → Room k (A.deeper (envOfC qual (defScope st) s.heap.objs.size f cdv)) → sp vs H Q E →
      ∃ t, PSs (cxOf CX P w K mg base N qual (defScope st) f cdv A outer s H E) (defBody st) t ∧ t { nx := fun _ H1 => Q .non H1, rt := Q } (start N vs) H) : FnG P w K mg base CX (k + 1) f sp := by
  obtain ⟨oc, od, kV, doc, pm, an, cdv, ct, osl, e, lk, hcd⟩ := F.ex
  subst e
  intro A outer s H us vs Q E hg hr e0 rv hs
  have hl := len _ _ _ _ hs
  have hu : (us ++ []).length = ps.length := by rw [List.append_nil, ← hl]; exact rv.length.symm
  have b := B s us (e0.mod.kin.keeps fun b o z => (e0.bs b o z).1) hu
  rw [List.append_nil] at b
  exact LamX.run_ofS lk hcd S hr e0 b rv hl fun hr1 => go cdv A outer s H vs Q E hg hr1 hs
theorem FnG.mk0 {P : Program} {w : World} {K : PySem.W.Frag} {mg : Str → Option Value} {base : Heap} {k : Nat} {x qual : Str} {st : Stmt} {f : Addr} {fd : FuncData} {N ps : List Str} {sp : Sp}
    (F : Fun K x qual st f fd) (S : FnScope N ps (defScope st)) (B : Binds K fd ps []) (len : ∀ vs H Q E, sp vs H Q E → vs.length = ps.length)
    (go : ∀ (cdv : Value) (A : Around) (outer : List Env) (s : Shared) (H : Hp) (vs : List V) (Q : VK) (E : XK), (A.deeper (envOfC qual (defScope st) s.heap.objs.size f cdv)).guards = some [] → Room k (A.deeper (envOfC qual (defScope st) s.heap.objs.size f cdv)) → sp vs H Q E →
      ∃ t, PSs (cxOf CX0 P w K mg base N qual (defScope st) f cdv A outer s H E).nox (defBody st) t ∧ t { nx := fun _ H1 => Q .non H1, rt := Q } (start N vs) H) : FnG P w K mg base CX0 (k + 1) f sp :=
  FnG.mk F S B len fun cdv A outer s H vs Q E hg hr hs => by
    obtain ⟨t, ht, q⟩ := go cdv A outer s H vs Q E hg hr hs
    exact ⟨t, ht.nox, q⟩
/-- .. of a def whose code object is known -/
theorem FnG.mkL {P : Program} {w : World} {K : PySem.W.Frag} {mg : Str → Option Value} {base : Heap} {k : Nat} {x qual : Str} {st : Stmt} {f c : Addr} {N ps : List Str} {sp : Sp} {oc : Value} {od an : Option Addr} {osl : Array (Option Value)} {kV doc pm ct : Value}
    (lk : K.lookup f = some ⟨oc, od, .func (PySem.W.fnOf x qual (defArgs st) (defBody st) (defScope st) .none kV doc pm an (.ref c) ct), osl⟩) (hcd : PySem.W.codeIn K (.ref c) qual = true) (S : FnScope N ps (defScope st))
    (B : Binds K (PySem.W.fnOf x qual (defArgs st) (defBody st) (defScope st) .none kV doc pm an (.ref c) ct) ps []) (len : ∀ vs H Q E, sp vs H Q E → vs.length = ps.length)
    (go : ∀ (A : Around) (outer : List Env) (s : Shared) (H : Hp) (vs : List V) (Q : VK) (E : XK), (A.deeper (envOfC qual (defScope st) s.heap.objs.size f (.ref c))).guards = some [] → Room k (A.deeper (envOfC qual (defScope st) s.heap.objs.size f (.ref c))) → sp vs H Q E →
      ∃ t, PSs (cxOf CX0 P w K mg base N qual (defScope st) f (.ref c) A outer s H E).nox (defBody st) t ∧ t { nx := fun _ H1 => Q .non H1, rt := Q } (start N vs) H) : FnG P w K mg base CX0 (k + 1) f sp := by
  intro A outer s H us vs Q E hg hr e0 rv hs
  have hl := len _ _ _ _ hs
  have hu : (us ++ []).length = ps.length := by rw [List.append_nil, ← hl]; exact rv.length.symm
  have b := B s us (e0.mod.kin.keeps fun b o z => (e0.bs b o z).1) hu
  rw [List.append_nil] at b
  exact LamX.run_ofS lk hcd S hr e0 b rv hl fun hr1 => by
    obtain ⟨t, ht, q⟩ := go A outer s H vs Q E hg hr1 hs
    exact ⟨t, ht.nox, q⟩
/-- x(e, ..), x such a def -/
theorem pe_callG {X : Cx} {CX : CXT} {k : Nat} {f : Addr} {sp : Sp} {E : XK} {x : Str} {e : Expr} {es : List Expr} {t : TA} {p pos : Pos} (gu : X.A.guards = some []) (F : FnG X.prog X.w X.K X.mg X.base CX k f sp) (hr : Room k X.A) (hk : PySem.W.keepIn X.K (.ref f) = true) (hg : Gl X x) (hm : X.mg x = some (.ref f)) (hx : Passes CX X E)
    (ha : PA X (e :: es) t) (hd : (x == ("__debug__" : Str)) = false := by decide) (he : starEach (e :: es) X.env = (false, eval e X.env) :: starEach es X.env := by rfl) (hpl : (backTo pos (starEach es X.env)).any (·.1) = false := by rfl) :
    PE X (.Call (.Name x p) (e :: es) [] pos) (fun σ H Q => t σ H fun vs H1 => sp vs H1 Q E) := by
  refine ⟨fun pins s σ H Q I h => wpAny_Call_Name_kw (ld_glob I hg hm ?_ hd)⟩
  refine PySem.W.callWith_K (h₀ := X.base) I.ok.mod.kin hk (thn (ha.run pos pins s σ H _ I h) fun us s1 ⟨vs, H1, I1, r, q⟩ => ⟨I1.kIn, wpAny_call ?_⟩) he hpl
  refine codeAny_mono (F X.A X.stack s1 H1 us vs Q E gu hr I1.env0 r q) fun z s2 hz => ?_
  match z, hz with
  | .error er, hz => exact hx pins σ H1 s1 er s2 I1 hz
  | .ok (.ret u), hz => exact I1.after hz
/-! ### the law's entry, with tables of code objects and nothing being shown -/
section
variable {P : Program} {w : World} {K : PySem.W.Frag} {mg mb : Str → Option Value} {a : Addr} {cs : List (Addr × Addr)} {s : Shared} {vs : List Value} {ns : List Int}
open Classical in
/-- what is tracked at the entry: the script, if it is none of the written things, and the tables -/
noncomputable def H1st (K : PySem.W.Frag) (a : Addr) (cs : List (Addr × Addr)) (vs : List Value) (ns : List Int) : Hp := fun b =>
  if b = a ∧ K.lookup a = Option.none then some (.frz ({ cls := .type "list", data := .seq vs.toArray } : Obj) (.lst (ns.map V.int))) else if ∃ p ∈ cs, p.2 = b then some (.tbl #[]) else Option.none
theorem entry (KX : K.In s.heap) (G : s.heap.Ns mainGlobals mg) (Gb : s.heap.Ns builtinsNs mb) (bb : ∀ x : Str, x ≠ "__name__" → mb x = bootBuiltins x) (nl : s.heap.NoLimit) (ng : s.gens = #[])
    (tb : ∀ p ∈ cs, s.heap.get? p.2 = some ({ cls := .none, data := .fields #[] } : Obj)) (tk : ∀ p ∈ cs, K.lookup p.2 = Option.none) (ch : ∀ p ∈ cs, PySem.W.CodeHd s.heap p.1 p.2)
    (bm : ∃ (m : Addr) (o : Obj), mg "__builtins__" = some (.ref m) ∧ m ≠ builtinsNs ∧ s.heap.get? m = some o ∧ o.cls = .type "module" ∧ o.dict = some builtinsNs ∧ o.data = .plain)
    (sc : s.heap.get? a = some ({ cls := .type "list", data := .seq vs.toArray } : Obj)) (iv : IntsAre vs ns) (len : ns.length ≤ sizeLine) :
    ∃ (H : Hp) (base : Heap), K.In base ∧ base.Ns mainGlobals mg ∧ (∀ p ∈ cs, LamX.TabB base mg p.1 p.2) ∧ Env0 P w K mg base callerA [] s H ∧ (∀ p ∈ cs, H p.2 = some (.tbl #[])) ∧ SqL K H a (ns.map V.int) ∧
      ∀ b, H b = Option.none ∨ (∃ p ∈ cs, p.2 = b) ∨ ∃ o xs, H b = some (.frz o (.lst xs)) := by
  have rv := vals_ints iv
  have nt : ¬ ∃ p ∈ cs, p.2 = a := fun ⟨p, hp, e⟩ => by
    have z := tb p hp
    rw [e, sc] at z
    exact nomatch congrArg Obj.data (Option.some.inj z)
  -- what is tracked
  have tr : ∀ b u, H1st K a cs vs ns b = some u → (b = a ∧ K.lookup a = Option.none ∧ u = .frz ({ cls := .type "list", data := .seq vs.toArray } : Obj) (.lst (ns.map V.int))) ∨ ((∃ p ∈ cs, p.2 = b) ∧ u = .tbl #[]) := fun b u h => by
    unfold H1st at h
    split at h
    · rename_i c; exact .inl ⟨c.1, c.2, (Option.some.inj h).symm⟩
    · split at h
      · rename_i c; exact .inr ⟨c, (Option.some.inj h).symm⟩
      · cases h
  have tt : ∀ p ∈ cs, H1st K a cs vs ns p.2 = some (.tbl #[]) := fun p hp => by
    unfold H1st
    rw [if_neg (fun z : p.2 = a ∧ _ => nt ⟨p, hp, z.1⟩), if_pos ⟨p, hp, rfl⟩]
  have un : ∀ b o, s.heap.get? b = some o → (∀ v n, o.data ≠ .seq v n) → o.data ≠ .fields #[] → H1st K a cs vs ns b = Option.none := fun b o e n1 n2 => by
    match q : H1st K a cs vs ns b with
    | Option.none => rfl
    | some u =>
      exfalso
      rcases tr b u q with ⟨z, _, _⟩ | ⟨⟨p, hp, z⟩, _⟩
      · rw [z, sc] at e; cases e; exact n1 _ _ rfl
      · rw [← z, tb p hp] at e; cases e; exact n2 rfl
  have keep : ∀ {b : Addr} {o : Obj}, s.heap.get? b = some o → (∀ v n, o.data ≠ .seq v n) → o.data ≠ .fields #[] → (hidT s.heap (H1st K a cs vs ns)).get? b = some o := fun e n1 n2 => hidT_get e (un _ _ e n1 n2)
  have nsOf : ∀ {b : Addr} {m : Str → Option Value}, s.heap.Ns b m → (hidT s.heap (H1st K a cs vs ns)).Ns b m := fun {b m} ⟨o, es, ep, e, d, r⟩ => ⟨o, es, ep, keep e (fun v n z => by rw [d] at z; cases z) (fun z => by rw [d] at z; cases z), d, r⟩
  have kin : K.In (hidT s.heap (H1st K a cs vs ns)) := fun b o e => hidT_get (KX b o e) (by
    match q : H1st K a cs vs ns b with
    | Option.none => rfl
    | some u =>
      exfalso
      rcases tr b u q with ⟨z, z2, _⟩ | ⟨⟨p, hp, z⟩, _⟩
      · rw [z, z2] at e; cases e
      · rw [← z, tk p hp] at e; cases e)
  have md : L2.Mod K mg (hidT s.heap (H1st K a cs vs ns)) := { kin := kin, glob := nsOf G, blt := ⟨mb, nsOf Gb, bb⟩, nolimit := by obtain ⟨mc, q1, q2⟩ := nl; exact ⟨mc, nsOf q1, q2⟩ }
  have gl : ∀ p ∈ cs, mainGlobals ≠ p.2 := fun p hp z => by
    obtain ⟨o, es, ep, e, d, _⟩ := G
    rw [z, tb p hp] at e
    cases e
    cases d
  refine ⟨H1st K a cs vs ns, hidT s.heap (H1st K a cs vs ns), kin, nsOf G, fun p hp => ⟨?_, ?_, gl p hp⟩, ⟨rfl, md, fun b o e => of_hidT e, Nat.le_of_eq (hidT_size _ _), trivial, fun b hb => (List.not_mem_nil hb).elim, fun b u q => ?_, .of_eq ng⟩, tt, ?_, fun b => ?_⟩
  · obtain ⟨o, us, file, tf, flags, tg, inF, text, tt, q0, q1, q2, q3, rest⟩ := ch p hp
    refine ⟨o, us, file, tf, flags, tg, inF, text, tt, keep q0 (fun v n z => by rw [q2] at z; cases z) (fun z => ?_), q1, q2, q3, rest⟩
    rw [q2] at z
    cases z
    simp at q3
  · obtain ⟨m, o, b1, b2, b3, b4, b5, b6⟩ := bm
    refine ⟨m, o, b1, b2, fun z => ?_, fun z => ?_, keep b3 (fun v n z => by rw [b6] at z; cases z) (fun z => by rw [b6] at z; cases z), b4, b5, b6⟩
    · obtain ⟨o2, es, ep, e, d, _⟩ := G
      rw [z, e] at b3
      cases b3
      rw [d] at b6
      cases b6
    · rw [z, tb p hp] at b3
      cases b3
      cases b6
  · rcases tr b u q with ⟨z, _, z3⟩ | ⟨⟨p, hp, z⟩, z3⟩
    · rw [z, z3]
      exact ⟨sc, by rw [List.length_map]; exact len, vs, _, rv, sc⟩
    · rw [← z, z3]
      exact tb p hp
  · match q : K.lookup a with
    | Option.none => exact .inl (.inr ⟨_, by unfold H1st; rw [if_pos ⟨rfl, q⟩]⟩)
    | some o =>
      have e := KX a o q
      rw [sc] at e
      cases e
      exact .inr ⟨_, vs.toArray, _, q, rfl, rfl, rfl, by rw [List.size_toArray, iv.length]; exact len, by simpa using rv⟩
  · match q : H1st K a cs vs ns b with
    | Option.none => exact .inl rfl
    | some u =>
      rcases tr b u q with ⟨_, _, z3⟩ | ⟨z, _⟩
      · rw [z3]; exact .inr (.inr ⟨_, _, rfl⟩)
      · exact .inr (.inl z)
/-- what stood before the law stands behind it -/
theorem leave {H H2 : Hp} {s2 : Shared} (tb : ∀ p ∈ cs, s.heap.get? p.2 = some ({ cls := .none, data := .fields #[] } : Obj)) (ch : ∀ p ∈ cs, PySem.W.CodeHd s.heap p.1 p.2) (tt : ∀ p ∈ cs, H p.2 = some (.tbl #[]))
    (only : ∀ b, H b = Option.none ∨ (∃ p ∈ cs, p.2 = b) ∨ ∃ o xs, H b = some (.frz o (.lst xs))) (h1 : HOk P w H s.heap) (u : Un (frs []) [] H H2 s.heap s2.heap) (h2 : HOk P w H2 s2.heap) : OldK s.heap s2.heap := by
  have same : ∀ b o, ¬ (∃ p ∈ cs, p.2 = b) → s.heap.get? b = some o → s2.heap.get? b = some o := fun b o n e => by
    rcases only b with z | z | ⟨ob, xs, z⟩
    · exact u.keep b o e z List.not_mem_nil List.not_mem_nil
    · exact (n z).elim
    · have q1 := (h1 b _ z).1
      have q2 := (h2 b _ (u.frzs b ob _ z)).1
      rw [e] at q1
      rw [q2, Option.some.inj q1]
  have more : ∀ p ∈ cs, ∃ ps : Array Value, s2.heap.get? p.2 = some ({ cls := .none, data := .fields ps } : Obj) := fun p hp => by
    obtain ⟨ps, z⟩ := u.tbls p.2 #[] (tt p hp)
    exact ⟨_, h2 p.2 _ z⟩
  refine ⟨fun b o e => ?_, fun b o e => ?_⟩
  all_goals by_cases hb : ∃ p ∈ cs, p.2 = b
  · obtain ⟨p, hp, rfl⟩ := hb
    obtain ⟨ps, z⟩ := more p hp
    have e2 := e
    rw [tb p hp] at e2
    cases e2
    exact .inr (.inl ⟨((ch p hp).tab (tb p hp)).isCodeTable, rfl, #[], ps, rfl, by rw [Array.empty_append]; exact z⟩)
  · exact .inl (same b o hb e)
  · obtain ⟨p, hp, rfl⟩ := hb
    exact ⟨_, (more p hp).choose_spec⟩
  · exact ⟨o, same b o hb e⟩
end
/-- what is shown of the law behind the head: its promise, and the tables that it leans on -/
def LawG (l : PySem.W.OpenLaw) (w : World) (K : PySem.W.Frag) (k : Nat) (mg : Str → Option Value) (fa : Addr) (h : Heap) : Prop :=
  ∃ (cs : List (Addr × Addr)) (sp : Sp), (∀ p ∈ cs, h.get? p.2 = some ({ cls := .none, data := .fields #[] } : Obj)) ∧ (∀ p ∈ cs, K.lookup p.2 = Option.none) ∧ (∀ p ∈ cs, PySem.W.CodeHd h p.1 p.2) ∧
    (∀ (H : Hp) (a : Addr) (ns : List Int), ns.length ≤ 63 → (∀ z ∈ ns, Builtin.Int.intBits z ≤ 1048576) → (∀ p ∈ cs, H p.2 = some (.tbl #[])) → SqL K H a (ns.map V.int) → sp [.ref a] H (fun v _ => v = .bl true) fun _ _ _ => False) ∧
    ∀ base : Heap, K.In base → base.Ns mainGlobals mg → (∀ p ∈ cs, LamX.TabB base mg p.1 p.2) → FnG l.prog w K mg base CX0 k fa sp
/-- the table of the def x is empty behind the top -/
def TabOf (K : PySem.W.Frag) (mg : Str → Option Value) (h : Heap) (x : Str) : Prop := ∀ (f c P : Addr) (o : Obj) (fd : FuncData) (e : Value) (dd : Option Addr) (vs : Array Value) (sl : Array (Option Value)), mg x = some (.ref f) → K.lookup f = some o → o.data = .func fd → fd.code = .ref c →
  K.lookup c = some ⟨e, dd, .fields vs, sl⟩ → vs[11]? = some (.ref P) → h.get? P = some ({ cls := .none, data := .fields #[] } : Obj) ∧ PySem.W.CodeHd h c P
theorem walkG {l : PySem.W.OpenLaw} {k : Nat} {q : Program} {loose : List Str} {XP : (Str → Option Value) → Heap → Prop} {YP : World → Heap → Prop} {d : DefRec} {K : Params → PySem.W.Frag} (xs : List Str) (hxs : (xs.all fun x => (recsOf q).any fun e => e.name == x) = true)
    (hn : l.most = some 63) (hdf : d.params.defaults = []) (hr : Room k callerA) (hY : ∀ (w : World) (h : Heap), YP w h → (K w.params).In h)
    (F : ∀ (w : World) (mg : Str → Option Value) (fa : Addr) (h : Heap), (K w.params).In h → h.Ns mainGlobals mg → mg d.name = some (.ref fa) → (∀ x ∈ xs, TabOf (K w.params) mg h x) → LawG l w (K w.params) k mg fa h) :
    PySem.W.WalkO q loose XP YP l.row.toRowW d [] (fun f vs => PySem.call f vs) := by
  refine Att.attach_callB hn hdf fun w s₀ s mg mb fa o pm cd doc a vs ns G Y _ _ _ hmg hobj hints hlen hbits hg => ?_
  have KX := hY w _ Y
  have tabs : ∀ x ∈ xs, TabOf (K w.params) mg s.heap x := fun x hx f c P o fd e dd us sl m1 m2 m3 m4 m5 m6 => by
    obtain ⟨r, hr1, hr2⟩ := List.any_eq_true.mp (List.all_eq_true.mp hxs x hx)
    obtain ⟨f2, o2, fd2, c2, P2, t1, t2, t3, t4, t5, t6⟩ := G.T.tab r hr1
    rw [beq_iff_eq.mp hr2, m1] at t1
    cases t1
    rw [KX _ _ m2] at t2
    cases t2
    rw [m3] at t3
    cases t3
    rw [m4] at t4
    cases t4
    have hd := PySem.W.CodeHd.of t5 t6
    obtain ⟨⟨oc, vc, u1, _, u3, u4⟩, hP⟩ := t6
    rw [KX _ _ m5] at u1
    cases u1
    cases u3
    rw [m6] at u4
    cases u4
    exact ⟨hP, hd⟩
  obtain ⟨cs, sp, tb, tk, ch, hsp, FG⟩ := F w mg fa _ KX G.T.g hmg tabs
  obtain ⟨H, base, kin, ns1, TB, e0, tt, hS, only⟩ := entry (P := l.prog) (w := w) KX G.T.g G.T.b G.T.builtins G.T.nolimit hg tb tk ch G.T.bmain hobj hints (Nat.le_trans hlen (by decide))
  refine codeAny_mono (FG base kin ns1 TB callerA [] s H [.ref a] [.ref a] _ _ rfl hr e0 (.cons rfl .nil) (hsp H a ns hlen hbits tt hS)) fun r s2 h => ?_
  match r, h with
  | .ok (.ret u), ⟨v, H2, os, bare, un, hok, rel, e⟩ =>
    have e' : v = .bl true := e
    subst e'
    have eu : u = Value.bool true := rel
    subst eu
    exact ⟨rfl, leave tb ch tt only e0.hok un hok, os, bare⟩

/-! ### repr -/
/-- v is read as the datum d: as Dp, and dicts of no entry or one -/
inductive Dq (K : PySem.W.Frag) (H : Hp) : V → PyData → Prop where
  | dp {v : V} {d : PyData} : Dp K H v d → Dq K H v d
  | d0 {a : Addr} : H a = some (.dK []) → Dq K H (.ref a) (.dict [])
mutual
theorem dp_nodict {K : PySem.W.Frag} {H : Hp} : ∀ (d : PyData) (v : V), Dp K H v d → d.hasDict = false
  | .none, _, _ => rfl
  | .bool _, _, _ => rfl
  | .int _, _, _ => rfl
  | .str _, _, _ => rfl
  | .list ds, _, h => by
    cases h with
    | lst _ ha => exact dp_nodictAll ds _ ha
  | .tuple ds, _, h => by
    cases h with
    | tup _ ha => exact dp_nodictAll ds _ ha
  | .dict _, _, h => by cases h
theorem dp_nodictAll {K : PySem.W.Frag} {H : Hp} : ∀ (ds : List PyData) (vs : List V), DpAll K H vs ds → PyData.hasDictAll ds = false
  | [], _, _ => rfl
  | d :: ds, _, h => by
    cases h with
    | cons h1 h2 =>
      show (PyData.hasDict d || PyData.hasDictAll ds) = false
      rw [dp_nodict d _ h1, dp_nodictAll ds _ h2]
      rfl
end
theorem Dq.reads {X : Cx} {pins : List (Addr × Obj)} {σ : L2.St} {H : Hp} {s : Shared} (I : Inv X pins σ H s) {v : V} {d : PyData} {u : Value} (h : Dq X.K H v d) (r : RelV v u) : ∃ as, Reads s.heap u d as ∧ (d.hasDict = true → sysModules ∉ as) := by
  cases h with
  | dp h =>
    obtain ⟨as, q⟩ := Dp.reads I _ _ _ h r
    exact ⟨as, q, fun z => by rw [dp_nodict _ _ h] at z; cases z⟩
  | @d0 a h =>
    obtain rfl : u = Value.ref a := r
    obtain ⟨_, ns, vs, kv, o, es, ep, e1, e2, e3, e4⟩ := (show ObjOk X.prog X.w H s.heap a (.dK []) from I.hok a _ h)
    cases kv
    have e5 : es.toList = [] := by
      have e6 := e4.2.1
      generalize es.toList = l at e6
      cases e6
      rfl
    refine ⟨[a] ++ [] ++ [], Reads.dict e1 e2.1 e3 (by rw [e5]; exact .nil) (by rw [e5]; exact .nil), fun _ z => ?_⟩
    have z' : sysModules = a := by simpa using z
    rw [← z'] at ns
    simp at ns
def rRep (K : PySem.W.Frag) : List V → Hp → VK → Prop := fun vs H Q => ∃ v d, vs = [v] ∧ Dq K H v d ∧ d.showable = true ∧ d.depth ≤ 60 ∧ ((∃ i, d = .int i) ∨ d.shown.length ≤ sizeLine) ∧ Q (.str d.shown) H
theorem call_rep {X : Cx} (gu : X.A.guards = some []) (hu : X.A.units + 64 < cLine) : CallR X (.builtin "repr") (rRep X.K) := by
  intro pins s σ H xs us Q I r h
  obtain ⟨v, d, rfl, hd, h1, h2, h3, q⟩ := h
  obtain ⟨u, rfl, ru⟩ := vals1 r
  obtain ⟨as, rd, ns⟩ := hd.reads I ru
  have done : ∀ (h' : Heap) (t : Tok) (tk : Nat), (∀ b o, s.heap.get? b = some o → h'.get? b = some o) → EP X pins σ Q (.str d.shown t) { s with heap := h', toks := tk } := fun h' t tk k => ⟨.str d.shown, H, I.kept (t' := tk) k, ⟨t, rfl⟩, q⟩
  have same : ∀ t tk, EP X pins σ Q (.str d.shown t) { s with toks := tk } := fun t tk => done s.heap t tk fun _ _ z => z
  have h3 : (∀ i, d ≠ .int i) → d.shown.length ≤ sizeLine := fun n => h3.resolve_left fun ⟨i, z⟩ => n i z
  cases rd with
  | none => exact PySem.P.repr_of_none (same _ _)
  | bool b => exact PySem.P.repr_of_bool (same _ _)
  | int i t => exact PySem.P.repr_of_int (of_decide_eq_true h1) (same _ _)
  | str x t => exact PySem.P.repr_of_str (same _ _) (h3 fun _ z => nomatch z)
  | list e1 e2 e3 e4 => exact PySem.repr_of_reads' (.list e1 e2 e3 e4) h1 ns gu (by omega) (fun _ _ z => z) (fun h' u tk k => done h' u tk k) (h3 fun _ z => nomatch z)
  | tuple e1 e2 e3 e4 => exact PySem.repr_of_reads' (.tuple e1 e2 e3 e4) h1 ns gu (by omega) (fun _ _ z => z) (fun h' u tk k => done h' u tk k) (h3 fun _ z => nomatch z)
  | dict e1 e2 e3 e4 e5 => exact PySem.repr_of_reads' (.dict e1 e2 e3 e4 e5) h1 ns gu (by omega) (fun _ _ z => z) (fun h' u tk k => done h' u tk k) (h3 fun _ z => nomatch z)

/-- the target a, b within a comprehension: told of the written part and of the number of names -/
theorem pg_tup2 {X : Cx} {es : List Expr} {k : Nat} {t : TGs} {pos : Pos} (K : PySem.W.Frag) (n : Nat) (hK : X.K = K) (hc : X.calm = true) (h : PGs X es t) (hn : (assignEach es X.env).length = n := by rfl) (hst : (assignEach es X.env).findIdx? (·.1) = none := by rfl) : PG X (.Tuple es k pos) (gTup K n t) := by
  subst hK
  exact pg_tup hc h hn hst
theorem ix_tup2 {X : Cx} (K : PySem.W.Frag) (hK : X.K = K) : IxR X (rIxT K) := by
  subst hK
  exact ix_tup
theorem ix_list2 {X : Cx} (K : PySem.W.Frag) (hK : X.K = K) : IxR X (rIxL K) := by
  subst hK
  exact ix_list
theorem op_eqD2 {X : Cx} (K : PySem.W.Frag) (hK : X.K = K) (hu : X.A.units + 64 < cLine) : OpR X (compareOp .Eq) (rEqD K) := by
  subst hK
  exact op_eqD hu
theorem sl_list2 {X : Cx} (K : PySem.W.Frag) (hK : X.K = K) : SlR X (rSlL K) := by
  subst hK
  exact sl_list
theorem op_in_seq2 {X : Cx} (K : PySem.W.Frag) (hK : X.K = K) : OpR X (compareOp .In) (rIn K false) := by
  subst hK
  exact op_in_seq
theorem op_notIn_seq2 {X : Cx} (K : PySem.W.Frag) (hK : X.K = K) : OpR X (compareOp .NotIn) (rIn K true) := by
  subst hK
  exact op_notIn_seq

/-! ### values by kinds; numbers that are refused -/
/-- v is of the built-in kind t -/
inductive NT (H : Hp) : V → String → Prop where
  | non : NT H .non "NoneType"
  | bl (b : Bool) : NT H (.bl b) "bool"
  | int (i : Int) : NT H (.int i) "int"
  | str (x : Str) : NT H (.str x) "str"
  | lst {a : Addr} {xs : List V} : H a = some (.lst xs) → NT H (.ref a) "list"
  | tup {a : Addr} {xs : List V} : H a = some (.tup xs) → NT H (.ref a) "tuple"
  | dic {a : Addr} {kvs : List (Key × V)} : H a = some (.dK kvs) → NT H (.ref a) "dict"
theorem NT.same {H H' : Hp} (s : Same H H') {v : V} {t : String} (h : NT H v t) : NT H' v t := by
  cases h with
  | non => exact .non
  | bl b => exact .bl b
  | int i => exact .int i
  | str x => exact .str x
  | lst e => exact .lst (s _ _ e)
  | tup e => exact .tup (s _ _ e)
  | dic e => exact .dic (s _ _ e)
theorem NT.ty {K : PySem.W.Frag} {H : Hp} {v : V} {t : String} (h : NT H v t) : TyX K H v (.type t) := by
  cases h with
  | non => exact .base .non
  | bl b => exact .base (.bl b)
  | int i => exact .base (.int i)
  | str x => exact .base (.str x)
  | lst e => exact .base (.lst e)
  | tup e => exact .base (.tup e)
  | dic e => exact .base (.dK e)
theorem NT.kit {H : Hp} {v : V} {t : String} (h : NT H v t) : ∃ b1 b2, kitB t "int" = some b1 ∧ kitB t "bool" = some b2 ∧ (b1 && !b2) = (t == "int") := by
  cases h with
  | non => exact ⟨false, false, by decide +kernel, by decide +kernel, by decide +kernel⟩
  | bl b => exact ⟨true, true, by decide +kernel, by decide +kernel, by decide +kernel⟩
  | int i => exact ⟨true, false, by decide +kernel, by decide +kernel, by decide +kernel⟩
  | str x => exact ⟨false, false, by decide +kernel, by decide +kernel, by decide +kernel⟩
  | lst e => exact ⟨false, false, by decide +kernel, by decide +kernel, by decide +kernel⟩
  | tup e => exact ⟨false, false, by decide +kernel, by decide +kernel, by decide +kernel⟩
  | dic e => exact ⟨false, false, by decide +kernel, by decide +kernel, by decide +kernel⟩
theorem NT.tupB {H : Hp} {v : V} {t : String} (h : NT H v t) : kitB t "tuple" = some (t == "tuple") := by
  cases h <;> decide +kernel
theorem NT.isInt {H : Hp} {v : V} {t : String} (h : NT H v t) (e : t = "int") : ∃ i, v = .int i := by
  cases h with
  | int i => exact ⟨i, rfl⟩
  | _ => exact absurd e (by decide)
/-- def f(*v) of the text, which may raise -/
theorem star_okX {x qual pv : Str} {k : Nat} {st : Stmt} {f : Addr} {fd : FuncData} {N : List Str} {sp : List V → Hp → VK → XK → Prop}
    (F : Fun K x qual st f fd) (S : FnScope N [pv] (defScope st))
    (hb : ∀ (kV doc pm : Value) (an : Option Addr) (cdv ct : Value) (rest : List Value), bindArgs (PySem.W.fnOf x qual (defArgs st) (defBody st) (defScope st) .none kV doc pm an cdv ct) { pos := rest, kw := [] } = (newTuple rest >>= fun t => pure [(pv, t)]))
    (go : ∀ (cdv : Value) (A : Around) (outer : List Env) (s : Shared) (H : Hp) (vs : List V) (p : Addr) (H0 : Hp) (Q : VK) (E : XK), Room k (A.deeper (envOfC qual (defScope st) s.heap.objs.size f cdv)) → sp vs H0 Q E → vs.length ≤ sizeLine → H0 p = Option.none → H = upd H0 p (.tup vs) →
      ∃ t, PSs (cxOf (L2.CX P w) P w K mg base N qual (defScope st) f cdv A outer s H E) (defBody st) t ∧ t { nx := fun _ H1 => Q .non H1, rt := Q } (start N [V.ref p]) H) :
    FnR P w K mg base (L2.CX P w) (k + 1) f (fun vs H Q E => vs.length ≤ sizeLine ∧ sp vs H Q E) := by
  obtain ⟨oc, od, kV, doc, pm, an, cdv, ct, osl, e, lk, hcd⟩ := F.ex
  subst e
  refine FnR.imp (fn_star (ps := []) (pv := pv) (CX := L2.CX P w) (sp := fun ws H Q E => ∃ (vs : List V) (p : Addr) (H0 : Hp), ws = [V.ref p] ∧ sp vs H0 Q E ∧ vs.length ≤ sizeLine ∧ H0 p = Option.none ∧ H = upd H0 p (.tup vs)) lk hcd S cxUp (fun us rest hl => ?_) fun A outer s H vs Q E hr h => ?_) fun vs H Q E h => ?_
  · have e : us = [] := List.length_eq_zero_iff.mp hl
    subst e
    show bindArgs _ { pos := rest, kw := [] } = _
    rw [hb]
    rfl
  · obtain ⟨ws, p, H0, rfl, hs, hl, hp, rfl⟩ := h
    exact go cdv A outer s _ ws p H0 Q E hr hs hl hp rfl
  · exact ⟨[], vs, rfl, rfl, h.1, fun p hp => ⟨vs, p, H, rfl, h.2, h.1, hp, rfl⟩⟩

/-! ### the error BadWheel -/
/-- what the written part says of BadWheel, at C, and of its __init__ -/
structure BadW (K : PySem.W.Frag) (mg : Str → Option Value) where
  C : Addr
  f : Addr
  fd : FuncData
  oex : OexC K C
  iC : PySem.W.findIn K (.ref C) "__init__" = some (some (.ref f))
  tI : PySem.W.typeIn K (.ref f) = some (.type "function")
  F : Fun K "__init__" "BadWheel.__init__" s_BadWheel_init f fd
  no : PySem.W.findIn K (.ref C) "part" = some Option.none
  m : mg "BadWheel" = some (.ref C)
/-- the init of an error of one field -/
def spInit1 (K : PySem.W.Frag) (f : Str) : Sp := fun vs H Q _ => ∃ (a C : Addr) (v : V), vs = [.ref a, v] ∧ OexC K C ∧ PySem.W.findIn K (.ref C) f = some Option.none ∧ H a = some (exo a C Option.none) ∧
  ∀ dx, H dx = Option.none → dx ≠ a → Q .non (upd (upd H dx (exd dx [(f, v)])) a (exo a C (some dx)))
theorem ok_badW_init (B : BadW K mg) : FnOk P w K mg base CX0 1 B.f B.fd ["self", "part"] (spInit1 K "part") := by
  refine B.F.ok sc_BadWheel_init (fun vs H Q E h => ?_) (fun cdv A outer s H vs Q E hr h => ?_)
  · obtain ⟨a, C, v, rfl, _⟩ := h; rfl
  · obtain ⟨a, C, v, rfl, T, no, ha, k⟩ := h
    refine ⟨_, pss_one (ps_ost (pv 0) (pv 1)), ?_⟩
    exact ⟨_, rfl, _, rfl, a, C, rfl, T, no, .inl ⟨ha, k⟩⟩
theorem b_badW (B : BadW K mg) : Binds K B.fd ["self", "part"] [] := B.F.binds (ps := ["self", "part"]) fun _ _ _ _ _ _ us hl => match us, hl with | [_, _], _ => rfl
theorem pmk_badW {X : Cx} {x : Expr} {te : TE} {p pos : Pos} (B : BadW X.K X.mg) (hr : Room 2 X.A) (hg : Gl X "BadWheel") (he : PE X x te)
    (hs : starEach (x :: []) X.env = (false, eval x X.env) :: starEach [] X.env := by rfl) (hpl : (backTo pos (starEach [] X.env)).any (·.1) = false := by rfl) : PMk X (.Call (.Name "BadWheel" p) [x] [] pos) (tMkO B.C (spInit1 X.K "part") [] (tCons te tNil)) :=
  pmk_oex (CX := CX0) (dvs := []) (ds := []) B.oex B.iC B.tI (ok_badW_init B) hr (b_badW B) .nil (fun _ _ _ _ _ _ _ z => z.elim) hg B.m (pa_cons he pa_nil hs) (by decide) hs hpl
/-- how its reading is answered -/
theorem badW_fin (B : BadW K mg) {H : Hp} {a : Addr} {v : V} {Q : XK} (ha : H a = Option.none) (k : ∀ (d : Addr) (H2 : Hp), Same H H2 → H d = Option.none → H2 d = some (.xd [("part", v)]) → Q (.ref B.C) (some d) H2) :
    spInit1 K "part" (.ref a :: ([v] ++ [])) (upd H a (exo a B.C Option.none)) (fun v' H2 => v' = .non ∧ ∃ (d : Addr) (fs : List (Str × V)), H2 a = some (exo a B.C (some d)) ∧ H2 d = some (exd d fs) ∧ H d = Option.none ∧ Q (.ref B.C) (some d) (upd (del H2 a) d (.xd fs))) (fun _ _ _ => False) := by
  refine ⟨a, B.C, v, rfl, B.oex, B.no, upd_same, fun dx h1 h2 => ⟨rfl, dx, _, upd_same, by rw [upd_ne h2, upd_same], ?_, ?_⟩⟩
  · rw [upd_ne h2] at h1; exact h1
  · have hd : H dx = Option.none := by rw [upd_ne h2] at h1; exact h1
    refine k dx _ (fun b o e => ?_) hd upd_same
    have n1 := ne_of_none e ha
    have n2 := ne_of_none e hd
    rw [upd_ne n2, del_ne n1, upd_ne n1, upd_ne n2, upd_ne n1]
    exact e

/-! ### errors of our own whose context is None -/
theorem pmk_oexN {X : Cx} {CX : CXT} {x : Str} {e : Expr} {es : List Expr} {ta : TA} {p pos : Pos} {C fI : Addr} {k : Nat} {fd : FuncData} {ps : List Str} {sp : Sp} {ds : List Value} {dvs : List V} (T : OexC X.K C) (iC : PySem.W.findIn X.K (.ref C) "__init__" = some (some (.ref fI))) (tI : PySem.W.typeIn X.K (.ref fI) = some (.type "function"))
    (F1 : FnOk X.prog X.w X.K X.mg X.base CX k fI fd ps sp) (hr : Room (k + 1) X.A) (hb : Binds X.K fd ps ds) (hd : Vals dvs ds) (hx : Passes CX X (fun _ _ _ => False)) (hg : Gl X x) (hm : X.mg x = some (.ref C)) (ha : PA X (e :: es) ta)
    (hdb : (x == ("__debug__" : Str)) = false := by decide) (he : starEach (e :: es) X.env = (false, eval e X.env) :: starEach es X.env := by rfl) (hpl : (backTo pos (starEach es X.env)).any (·.1) = false := by rfl) :
    L2N.PMk X (.Call (.Name x p) (e :: es) [] pos) (tMkO C sp dvs ta) := by
  intro pins s σ H Q I h
  obtain ⟨nm, q, N, bs, bm, sn, sub, ab, col, dd, k0, k1, k2, k3, k5, hC, hbm⟩ := T.cls
  refine wpAny_Call_Name_kw (ld_glob I hg hm ?_ hdb)
  refine PySem.W.callWith_K (h₀ := X.base) I.ok.mod.kin T.kC (thn (ha.run pos pins s σ H _ I h) fun us s1 ⟨vs, H1, I1, r1, hz, q1⟩ => ⟨I1.kIn, ?_⟩) he hpl
  show wpAny _ _ (call (.ref C) us) _ _ _
  obtain ⟨hp, g, dr, tk, os⟩ := s1
  have hsz : hp.objs.size ≤ hp.objs.size + 1 := Nat.le_succ _
  have hn : H1 (hp.objs.size + 1) = none := I1.hok.fresh hsz
  have hq := q1 (hp.objs.size + 1) hn
  have kk : ∀ b o, hp.get? b = some o → ((hp.push (PySem.W.kdv_tup us)).push (PySem.HandSPX.excO C hp.objs.size)).get? b = some o := fun b o e => Heap.get?_push_of_some _ (Heap.get?_push_of_some _ e)
  have hget : ((hp.push (PySem.W.kdv_tup us)).push (PySem.HandSPX.excO C hp.objs.size)).get? (hp.objs.size + 1) = some (PySem.HandSPX.excO C hp.objs.size) := by heap_get
  have I2 : Inv X pins σ (upd H1 (hp.objs.size + 1) (exo (hp.objs.size + 1) C none)) ⟨(hp.push (PySem.W.kdv_tup us)).push (PySem.HandSPX.excO C hp.objs.size), g, dr, tk, os⟩ :=
    I1.laid (t' := tk) (a := hp.objs.size + 1) (o := exo (hp.objs.size + 1) C none) (h' := (hp.push (PySem.W.kdv_tup us)).push (PySem.HandSPX.excO C hp.objs.size)) kk hsz (exo_ok hget)
  have r2 : Vals (V.ref (hp.objs.size + 1) :: (vs ++ dvs)) (Value.ref (hp.objs.size + 1) :: (us ++ ds)) := .cons rfl (r1.append hd)
  have hl : (Value.ref (hp.objs.size + 1) :: us ++ ds).length = ps.length := by
    have e := r2.length
    rw [F1.len _ _ _ _ hq] at e
    exact e.symm
  have hus : us.length ≤ sizeLine := by
    rw [← Paired.length r1, sizeLine_eq]
    omega
  refine wpAny_call (PySem.HandSPX.call_own F.excBase_ValueError (fun Y => PySem.HandSPX.refsVE_contains Y bm hbm) (I1.kIn _ _ hC) (PySem.W.looks_findIn I1.kIn iC) (fun self => PySem.W.bind_fn I1.kIn self tI) hus
    (codeAny_mono (F1.run _ X.stack _ _ ⟨Value.ref (hp.objs.size + 1) :: us, []⟩ (Value.ref (hp.objs.size + 1) :: (us ++ ds)) _ _ (fun _ _ _ => False) (hr.make C us []) (I2.env0.make C us []) (hb _ (Value.ref (hp.objs.size + 1) :: us) I2.kIn hl) r2 hq) fun r s' hq' => ?_))
  cases r with
  | error er => exact hx pins σ _ _ er s' I2 hq'
  | ok fl =>
    cases fl with
    | ret u =>
      obtain ⟨v, H2, os2, bare2, un2, hok2, rv, ev, d, fs, ea, ed, hd1, q2⟩ := hq'
      subst ev
      obtain ⟨h2, g2, d2, t2, os'⟩ := s'
      obtain ⟨t0, G, J, kG, ge, hoe, na⟩ := mk_end0 (d2 := d2) (t2 := t2) I1 hsz kk un2 hok2 os2 bare2 ea ed hd1
      refine ⟨rv, ⟨hp.objs.size + 1, _, _, ⟨G, g2, d2, t2, os'⟩, _, .ref C, some d, rfl, J, kG, ge, hoe, ⟨rfl, rfl, fun vs hv => ?_⟩, rfl, rfl, na, rfl, bare2, raises_own T.exC T.tyC, q2⟩⟩
      cases hv
      rfl
    | next => exact False.elim hq'
    | brk => exact False.elim hq'
    | cont => exact False.elim hq'
/-- as Fun.okX, for a def whose errors have no context -/
theorem Fun.okN {P : Program} {w : World} {K : PySem.W.Frag} {mg : Str → Option Value} {base : Heap} {x qual : Str} {st : Stmt} {f : Addr} {fd : FuncData} {N ps : List Str} {k : Nat} {sp : Sp} (F : Fun K x qual st f fd) (S : FnScope N ps (defScope st)) (len : ∀ vs H Q E, sp vs H Q E → vs.length = ps.length)
    (hbody : ∀ (cdv : Value) (A : Around) (outer : List Env) (s : Shared) (H : Hp) (vs : List V) (Q : VK) (E : XK), Room k (A.deeper (envOfC qual (defScope st) s.heap.objs.size f cdv)) → sp vs H Q E →
      ∃ t, PSs (cxOf (L2N.CX P w) P w K mg base N qual (defScope st) f cdv A outer s H E) (defBody st) t ∧ t { nx := fun _ H' => Q .non H', rt := Q } (start N vs) H) : FnOk P w K mg base (L2N.CX P w) (k + 1) f fd ps sp := by
  obtain ⟨oc, od, kV, doc, pm, an, cdv, ct, osl, rfl, lk, hcd⟩ := F.ex
  exact fn_of lk hcd S len fun A outer s H vs Q E hr hsp => hbody cdv A outer s H vs Q E hr hsp
/-- the same while an error is handled -/
theorem Fun.okH {P : Program} {w : World} {K : PySem.W.Frag} {mg : Str → Option Value} {base : Heap} {x qual : Str} {st : Stmt} {f : Addr} {fd : FuncData} {N ps : List Str} {k : Nat} {sp : Sp} (F : Fun K x qual st f fd) (S : FnScope N ps (defScope st)) (len : ∀ vs H Q E, sp vs H Q E → vs.length = ps.length)
    (hbody : ∀ (cdv : Value) (A : Around) (outer : List Env) (s : Shared) (H : Hp) (vs : List V) (Q : VK) (E : XK) (p : Addr × Obj), L2H.RoomH k (A.deeper (envOfC qual (defScope st) s.heap.objs.size f cdv)) → sp vs H Q E →
      ∃ t, PSs (L2H.cxH CX0 P w K mg base N qual (defScope st) f cdv A outer s H E p) (defBody st) t ∧ t { nx := fun _ H' => Q .non H', rt := Q } (start N vs) H) : L2H.FnH P w K mg base CX0 (k + 1) f fd ps sp := by
  obtain ⟨oc, od, kV, doc, pm, an, cdv, ct, osl, rfl, lk, hcd⟩ := F.ex
  exact L2H.fn_ofH lk hcd S len fun A outer s H vs Q E p hot hr hsp => hbody cdv A outer s H vs Q E p hr hsp
/-- .. which may call others then -/
theorem Fun.okHc {P : Program} {w : World} {K : PySem.W.Frag} {mg : Str → Option Value} {base : Heap} {x qual : Str} {st : Stmt} {f : Addr} {fd : FuncData} {N ps : List Str} {k : Nat} {sp : Sp} (F : Fun K x qual st f fd) (S : FnScope N ps (defScope st)) (len : ∀ vs H Q E, sp vs H Q E → vs.length = ps.length)
    (hbody : ∀ (cdv : Value) (A : Around) (outer : List Env) (s : Shared) (H : Hp) (vs : List V) (Q : VK) (E : XK) (p : Addr × Obj), L2H.HotC (L2H.cxH CX0 P w K mg base N qual (defScope st) f cdv A outer s H E p) → L2H.RoomH k (A.deeper (envOfC qual (defScope st) s.heap.objs.size f cdv)) → sp vs H Q E →
      ∃ t, PSs (L2H.cxH CX0 P w K mg base N qual (defScope st) f cdv A outer s H E p) (defBody st) t ∧ t { nx := fun _ H' => Q .non H', rt := Q } (start N vs) H) : L2H.FnH P w K mg base CX0 (k + 1) f fd ps sp := by
  obtain ⟨oc, od, kV, doc, pm, an, cdv, ct, osl, rfl, lk, hcd⟩ := F.ex
  exact L2H.fn_ofH lk hcd S len fun A outer s H vs Q E p hot hr hsp => hbody cdv A outer s H vs Q E p ⟨p, hot, List.mem_cons_self⟩ hr hsp

/-! ### the errors BadShelf, BadDeed and TooMany -/
structure BadS (K : PySem.W.Frag) (mg : Str → Option Value) where
  C : Addr
  f : Addr
  fd : FuncData
  oex : OexC K C
  iC : PySem.W.findIn K (.ref C) "__init__" = some (some (.ref f))
  tI : PySem.W.typeIn K (.ref f) = some (.type "function")
  F : Fun K "__init__" "BadShelf.__init__" s_BadShelf_init f fd
  no : PySem.W.findIn K (.ref C) "part" = some Option.none
  m : mg "BadShelf" = some (.ref C)
theorem ok_badS_init (B : BadS K mg) : FnOk P w K mg base CX0 1 B.f B.fd ["self", "part"] (spInit1 K "part") := by
  refine B.F.ok sc_BadShelf_init (fun vs H Q E h => ?_) (fun cdv A outer s H vs Q E hr h => ?_)
  · obtain ⟨a, C, v, rfl, _⟩ := h; rfl
  · obtain ⟨a, C, v, rfl, T, no, ha, k⟩ := h
    exact ⟨_, pss_one (ps_ost (pv 0) (pv 1)), _, rfl, _, rfl, a, C, rfl, T, no, .inl ⟨ha, k⟩⟩
theorem b_badS (B : BadS K mg) : Binds K B.fd ["self", "part"] [] := B.F.binds (ps := ["self", "part"]) fun _ _ _ _ _ _ us hl => match us, hl with | [_, _], _ => rfl
theorem pmk_badS {X : Cx} {x : Expr} {te : TE} {p pos : Pos} (B : BadS X.K X.mg) (hr : Room 2 X.A) (hg : Gl X "BadShelf") (he : PE X x te)
    (hs : starEach (x :: []) X.env = (false, eval x X.env) :: starEach [] X.env := by rfl) (hpl : (backTo pos (starEach [] X.env)).any (·.1) = false := by rfl) : L2N.PMk X (.Call (.Name "BadShelf" p) [x] [] pos) (tMkO B.C (spInit1 X.K "part") [] (tCons te tNil)) :=
  pmk_oexN (CX := CX0) (dvs := []) (ds := []) B.oex B.iC B.tI (ok_badS_init B) hr (b_badS B) .nil (fun _ _ _ _ _ _ _ z => z.elim) hg B.m (pa_cons he pa_nil hs) (by decide) hs hpl
structure BadD (K : PySem.W.Frag) (mg : Str → Option Value) where
  C : Addr
  f : Addr
  fd : FuncData
  oex : OexC K C
  iC : PySem.W.findIn K (.ref C) "__init__" = some (some (.ref f))
  tI : PySem.W.typeIn K (.ref f) = some (.type "function")
  F : Fun K "__init__" "BadDeed.__init__" s_BadDeed_init f fd
  no : PySem.W.findIn K (.ref C) "at" = some Option.none
  m : mg "BadDeed" = some (.ref C)
theorem ok_badD_init (B : BadD K mg) : FnOk P w K mg base CX0 1 B.f B.fd ["self", "at"] (spInit1 K "at") := by
  refine B.F.ok sc_BadDeed_init (fun vs H Q E h => ?_) (fun cdv A outer s H vs Q E hr h => ?_)
  · obtain ⟨a, C, v, rfl, _⟩ := h; rfl
  · obtain ⟨a, C, v, rfl, T, no, ha, k⟩ := h
    exact ⟨_, pss_one (ps_ost (pv 0) (pv 1)), _, rfl, _, rfl, a, C, rfl, T, no, .inl ⟨ha, k⟩⟩
theorem b_badD (B : BadD K mg) : Binds K B.fd ["self", "at"] [] := B.F.binds (ps := ["self", "at"]) fun _ _ _ _ _ _ us hl => match us, hl with | [_, _], _ => rfl
theorem pmk_badD {X : Cx} {x : Expr} {te : TE} {p pos : Pos} (B : BadD X.K X.mg) (hr : Room 2 X.A) (hg : Gl X "BadDeed") (he : PE X x te)
    (hs : starEach (x :: []) X.env = (false, eval x X.env) :: starEach [] X.env := by rfl) (hpl : (backTo pos (starEach [] X.env)).any (·.1) = false := by rfl) : L2N.PMk X (.Call (.Name "BadDeed" p) [x] [] pos) (tMkO B.C (spInit1 X.K "at") [] (tCons te tNil)) :=
  pmk_oexN (CX := CX0) (dvs := []) (ds := []) B.oex B.iC B.tI (ok_badD_init B) hr (b_badD B) .nil (fun _ _ _ _ _ _ _ z => z.elim) hg B.m (pa_cons he pa_nil hs) (by decide) hs hpl
theorem okh_badD_init (B : BadD K mg) : L2H.FnH P w K mg base CX0 1 B.f B.fd ["self", "at"] (spInit1 K "at") := by
  refine Fun.okH B.F sc_BadDeed_init (fun vs H Q E h => ?_) (fun cdv A outer s H vs Q E p hr h => ?_)
  · obtain ⟨a, C, v, rfl, _⟩ := h; rfl
  · obtain ⟨a, C, v, rfl, T, no, ha, k⟩ := h
    exact ⟨_, pss_one (ps_ost (pv 0) (pv 1)), _, rfl, _, rfl, a, C, rfl, T, no, .inl ⟨ha, k⟩⟩
theorem pmk_badDH {X : Cx} {x : Expr} {te : TE} {p pos : Pos} (B : BadD X.K X.mg) (hr : L2H.RoomH 2 X.A) (hc : L2H.HotC X) (hg : Gl X "BadDeed") (he : PE X x te)
    (hs : starEach (x :: []) X.env = (false, eval x X.env) :: starEach [] X.env := by rfl) (hpl : (backTo pos (starEach [] X.env)).any (·.1) = false := by rfl) : L2H.PMk5 X (.Call (.Name "BadDeed" p) [x] [] pos) (tMkO B.C (spInit1 X.K "at") [] (tCons te tNil)) :=
  L2H.pmk5_oexH (CX := CX0) B.oex B.iC B.tI (okh_badD_init B) hr hc (b_badD B) (fun _ _ _ _ _ _ _ z => z.elim) hg B.m (pa_cons he pa_nil hs) (by decide) hs hpl
structure TooM (K : PySem.W.Frag) (mg : Str → Option Value) where
  C : Addr
  f : Addr
  fd : FuncData
  oex : OexC K C
  iC : PySem.W.findIn K (.ref C) "__init__" = some (some (.ref f))
  tI : PySem.W.typeIn K (.ref f) = some (.type "function")
  F : Fun K "__init__" "TooMany.__init__" s_TooMany_init f fd
  no1 : PySem.W.findIn K (.ref C) "what" = some Option.none
  no2 : PySem.W.findIn K (.ref C) "most" = some Option.none
  m : mg "TooMany" = some (.ref C)
def spInitM (K : PySem.W.Frag) : Sp := fun vs H Q _ => ∃ (a C : Addr) (v u : V), vs = [.ref a, v, u] ∧ OexC K C ∧ PySem.W.findIn K (.ref C) "what" = some Option.none ∧ PySem.W.findIn K (.ref C) "most" = some Option.none ∧ H a = some (exo a C Option.none) ∧
  ∀ dx, H dx = Option.none → dx ≠ a → Q .non (upd (upd H dx (exd dx [("most", u), ("what", v)])) a (exo a C (some dx)))
theorem two_upM {H : Hp} {a d : Addr} {x y z : HO} (h : d ≠ a) : upd (upd (upd H d x) a z) d y = upd (upd H d y) a z := by
  funext b
  by_cases hb : b = d
  · rw [hb, upd_same, upd_ne h, upd_same]
  · rw [upd_ne hb]
    by_cases hc : b = a
    · rw [hc, upd_same, upd_same]
    · rw [upd_ne hc, upd_ne hc, upd_ne hb, upd_ne hb]
theorem ok_tooM_init (B : TooM K mg) : FnOk P w K mg base CX0 1 B.f B.fd ["self", "what", "most"] (spInitM K) := by
  refine B.F.ok sc_TooMany_init (fun vs H Q E h => ?_) (fun cdv A outer s H vs Q E hr h => ?_)
  · obtain ⟨a, C, v, u, rfl, _⟩ := h; rfl
  · obtain ⟨a, C, v, u, rfl, T, no1, no2, ha, k⟩ := h
    refine ⟨_, pss_cons (ps_ost (pv 0) (pv 1)) (pss_one (ps_ost (pv 0) (pv 2))), _, rfl, _, rfl, a, C, rfl, T, no1, .inl ⟨ha, fun dx h1 h2 => ?_⟩⟩
    refine ⟨_, rfl, _, rfl, a, C, rfl, T, no2, .inr ⟨dx, _, upd_same, by rw [upd_ne h2, upd_same], (by show 1 ≤ 900; decide), ?_⟩⟩
    rw [two_upM h2]
    exact k dx h1 h2
theorem b_tooM (B : TooM K mg) : Binds K B.fd ["self", "what", "most"] [] := B.F.binds (ps := ["self", "what", "most"]) fun _ _ _ _ _ _ us hl => match us, hl with | [_, _, _], _ => rfl
theorem pmk_tooM {X : Cx} {x y : Expr} {te tf : TE} {p pos : Pos} (B : TooM X.K X.mg) (hr : Room 2 X.A) (hg : Gl X "TooMany") (he : PE X x te) (hf : PE X y tf)
    (hs : starEach (x :: [y]) X.env = (false, eval x X.env) :: starEach [y] X.env := by rfl) (hs2 : starEach (y :: []) X.env = (false, eval y X.env) :: starEach [] X.env := by rfl) (hpl : (backTo pos (starEach [y] X.env)).any (·.1) = false := by rfl) : L2N.PMk X (.Call (.Name "TooMany" p) [x, y] [] pos) (tMkO B.C (spInitM X.K) [] (tCons te (tCons tf tNil))) :=
  pmk_oexN (CX := CX0) (dvs := []) (ds := []) B.oex B.iC B.tI (ok_tooM_init B) hr (b_tooM B) .nil (fun _ _ _ _ _ _ _ z => z.elim) hg B.m (pa_cons he (pa_cons hf pa_nil hs2) hs) (by decide) hs hpl
/-- how the reading of an error of one field is answered -/
theorem bad_fin1 {K : PySem.W.Frag} {C : Addr} {f : Str} (oex : OexC K C) (no : PySem.W.findIn K (.ref C) f = some Option.none) {H : Hp} {a : Addr} {v : V} {Q : XK} (ha : H a = Option.none) (k : ∀ (d : Addr) (H2 : Hp), Same H H2 → H d = Option.none → H2 d = some (.xd [(f, v)]) → Q (.ref C) (some d) H2) :
    spInit1 K f (.ref a :: ([v] ++ [])) (upd H a (exo a C Option.none)) (fun v' H2 => v' = .non ∧ ∃ (d : Addr) (fs : List (Str × V)), H2 a = some (exo a C (some d)) ∧ H2 d = some (exd d fs) ∧ H d = Option.none ∧ Q (.ref C) (some d) (upd (del H2 a) d (.xd fs))) (fun _ _ _ => False) := by
  refine ⟨a, C, v, rfl, oex, no, upd_same, fun dx h1 h2 => ?_⟩
  have hd : H dx = Option.none := by rw [upd_ne h2] at h1; exact h1
  refine ⟨rfl, dx, _, upd_same, by rw [upd_ne h2, upd_same], hd, k dx _ (fun b o e => ?_) hd upd_same⟩
  have n1 := ne_of_none e ha
  have n2 := ne_of_none e hd
  rw [upd_ne n2, del_ne n1, upd_ne n1, upd_ne n2, upd_ne n1]
  exact e
theorem tooM_fin (B : TooM K mg) {H : Hp} {a : Addr} {v u : V} {Q : XK} (ha : H a = Option.none) (k : ∀ (d : Addr) (H2 : Hp), Same H H2 → H d = Option.none → H2 d = some (.xd [("most", u), ("what", v)]) → Q (.ref B.C) (some d) H2) :
    spInitM K (.ref a :: ([v, u] ++ [])) (upd H a (exo a B.C Option.none)) (fun v' H2 => v' = .non ∧ ∃ (d : Addr) (fs : List (Str × V)), H2 a = some (exo a B.C (some d)) ∧ H2 d = some (exd d fs) ∧ H d = Option.none ∧ Q (.ref B.C) (some d) (upd (del H2 a) d (.xd fs))) (fun _ _ _ => False) := by
  refine ⟨a, B.C, v, u, rfl, B.oex, B.no1, B.no2, upd_same, fun dx h1 h2 => ?_⟩
  have hd : H dx = Option.none := by rw [upd_ne h2] at h1; exact h1
  refine ⟨rfl, dx, _, upd_same, by rw [upd_ne h2, upd_same], hd, k dx _ (fun b o e => ?_) hd upd_same⟩
  have n1 := ne_of_none e ha
  have n2 := ne_of_none e hd
  rw [upd_ne n2, del_ne n1, upd_ne n1, upd_ne n2, upd_ne n1]
  exact e

/-- e.f, a property of the object's class, whichever that is -/
def tPropW (K : PySem.W.Frag) (f : Str) (p g : Addr) (sp : Sp) (dvs : List V) (E : XK) (ta : TE) : TE := fun σ H Q => ta σ H fun x H1 => ∃ a C dx fs, x = .ref a ∧ H1 a = some (.ins C dx fs) ∧ Cls K C ∧ PropOf K C f p g ∧ sp (.ref a :: dvs) H1 Q E
theorem pe_propW {X : Cx} {CX : CXT} {k : Nat} {g : Addr} {f : Str} {fd : FuncData} {ps : List Str} {sp : Sp} {dvs : List V} {ds : List Value} {E : XK} {e : Expr} {pos : Pos} {ta : TE} (he : PE X e ta) (p : Addr) (F : FnOk X.prog X.w X.K X.mg X.base CX k g fd ps sp) (hr : Room (k + 1) X.A) (hb : Binds X.K fd ps ds) (hd : Vals dvs ds) (hx : Passes CX X.nox E)
    (hab : attributeBase e f X.env (eval e X.env) = eval e X.env) : PE X (.Attribute e f pos) (tPropW X.K f p g sp dvs E ta) := by
  refine ⟨fun pins s σ H Q I h => ?_⟩
  refine attr_of hab (thn (he.run pins s σ H _ I h) fun u s1 ⟨x, H1, I1, rx, a, C, dx, fs, ex, ea, c, hp, q⟩ => ?_)
  subst ex
  obtain rfl : u = Value.ref a := rx
  exact getprop_ok I1 ea c hp F hr hb hd hx q

/-! ### classes: made by a def with a star, static methods -/
/-- def f(p1, p2, *v) of the text -/
theorem star2_ok {x qual p1 p2 pv : Str} {k : Nat} {st : Stmt} {f : Addr} {fd : FuncData} {N : List Str} {sp : V → V → List V → Hp → VK → XK → Prop}
    (F : Fun K x qual st f fd) (S : FnScope N [p1, p2, pv] (defScope st))
    (hb : ∀ (kV doc pm : Value) (an : Option Addr) (cdv ct : Value) (a b : Value) (rest : List Value), bindArgs (PySem.W.fnOf x qual (defArgs st) (defBody st) (defScope st) .none kV doc pm an cdv ct) ⟨a :: b :: rest, []⟩ = (newTuple rest >>= fun t => pure [(p1, a), (p2, b), (pv, t)]))
    (go : ∀ (cdv : Value) (A : Around) (outer : List Env) (s : Shared) (H : Hp) (a b : V) (vs : List V) (p : Addr) (H0 : Hp) (Q : VK) (E : XK), Room k (A.deeper (envOfC qual (defScope st) s.heap.objs.size f cdv)) → sp a b vs H0 Q E → vs.length ≤ sizeLine → H0 p = Option.none → H = upd H0 p (.tup vs) →
      ∃ t, PSs (cxOf CX0 P w K mg base N qual (defScope st) f cdv A outer s H E).nox (defBody st) t ∧ t { nx := fun _ H1 => Q .non H1, rt := Q } (start N [a, b, V.ref p]) H) :
    FnR P w K mg base CX0 (k + 1) f (fun vs H Q E => ∃ a b rest, vs = a :: b :: rest ∧ rest.length ≤ sizeLine ∧ sp a b rest H Q E) := by
  obtain ⟨oc, od, kV, doc, pm, an, cdv, ct, osl, e, lk, hcd⟩ := F.ex
  subst e
  refine FnR.imp (fn_star (ps := [p1, p2]) (pv := pv) (CX := CX0) (sp := fun ws H Q E => ∃ (a b : V) (vs : List V) (p : Addr) (H0 : Hp), ws = [a, b, V.ref p] ∧ sp a b vs H0 Q E ∧ vs.length ≤ sizeLine ∧ H0 p = Option.none ∧ H = upd H0 p (.tup vs)) lk hcd S cxUp_none (fun us rest hl => ?_) fun A outer s H vs Q E hr h => ?_) fun vs H Q E h => ?_
  · match us, hl with
    | [a, b], _ =>
      show bindArgs _ { pos := a :: b :: rest, kw := [] } = _
      rw [hb]
      rfl
  · obtain ⟨a, b, ws, p, H0, rfl, hs, hl, hp, rfl⟩ := h
    obtain ⟨t, ht, hq⟩ := go cdv A outer s _ a b ws p H0 Q E hr hs hl hp rfl
    exact ⟨t, ht.nox, hq⟩
  · obtain ⟨a, b, rest, rfl, hl, hs⟩ := h
    exact ⟨[a, b], rest, rfl, rfl, hl, fun p hp => ⟨a, b, rest, p, H, rfl, hs, hl, hp, rfl⟩⟩
/-- C(e, ..), the init told of its arguments as they are passed -/
def tMkR (C : Addr) (sp : Sp) (E : XK) (t : TA) : TE := fun σ H Q => t σ H fun vs H1 => ∀ x dx, H1 x = Option.none → H1 dx = Option.none → dx ≠ x → sp (.ref x :: vs) (upd (upd H1 dx (.own x)) x (.ins C dx [])) (fun v H2 => v = .non ∧ Q (.ref x) H2) E
section
variable {X : Cx} {CX : CXT} {k : Nat} {f C p g : Addr} {sp : Sp} {E : XK} {x m : Str} {e o : Expr} {es : List Expr} {kws : List Keyword} {ta : TE} {t tk : TA} {pos apos q : Pos} {mc : Value}
theorem run_mkR {pins : List (Addr × Obj)} {σ : L2.St} {H : Hp} {s : Shared} {Q : VK} {us : List Value} {vs : List V} (M : Mk X.K C f) (F : FnR X.prog X.w X.K X.mg X.base CX k f sp) (hr : Room (k + 1) X.A) (hx : Passes CX X E) (I : Inv X pins σ H s) (r : Vals vs us)
    (h : ∀ x dx, H x = Option.none → H dx = Option.none → dx ≠ x → sp (.ref x :: vs) (upd (upd H dx (.own x)) x (.ins C dx [])) (fun v H2 => v = .non ∧ Q (.ref x) H2) E) : wpAny (model X.prog X.w) X.A (call (.ref C) us) (EP X pins σ Q) X.xe s := by
  have hq := h (s.heap.objs.size + 1) s.heap.objs.size (I.hok.fresh (Nat.le_succ _)) (I.hok.fresh (Nat.le_refl _)) (Nat.ne_of_lt (Nat.lt_succ_self _))
  have I2 := Inv.made (C := C) I
  have r1 : Vals (V.ref (s.heap.objs.size + 1) :: vs) (Value.ref (s.heap.objs.size + 1) :: us) := .cons rfl r
  refine wpAny_call (make_map (f := f) I.kIn M.makes M.init (beq_iff_eq.mp M.fn) (codeAny_mono (F _ X.stack _ _ (Value.ref (s.heap.objs.size + 1) :: us) _ _ E (hr.make C us []) (I2.env0.make C us []) r1 hq) fun r s2 hz => ?_))
  match r, hz with
  | .error er, hz => exact hx pins σ _ _ er s2 I2 hz
  | .ok (.ret u), hz =>
    obtain ⟨v, H3, I3, rv, ev, q3⟩ := I2.after hz
    subst ev
    exact ⟨rv, ⟨V.ref (s.heap.objs.size + 1), H3, I3, rfl, q3⟩⟩
theorem pe_mkR (M : Mk X.K C f) (F : FnR X.prog X.w X.K X.mg X.base CX k f sp) (hr : Room (k + 1) X.A) (hx : Passes CX X E) (hg : Gl X x) (hm : X.mg x = some (.ref C)) (ha : PA X (e :: es) t)
    (hdb : (x == ("__debug__" : Str)) = false := by decide) (he : starEach (e :: es) X.env = (false, eval e X.env) :: starEach es X.env := by rfl) (hpl : (backTo pos (starEach es X.env)).any (·.1) = false := by rfl) : PE X (.Call (.Name x q) (e :: es) [] pos) (tMkR C sp E t) := by
  refine ⟨fun pins s σ H Q I h => wpAny_Call_Name_kw (ld_glob I hg hm ?_ hdb)⟩
  refine PySem.W.callWith_K (h₀ := X.base) I.ok.mod.kin M.kp (thn (ha.run pos pins s σ H _ I h) fun us s1 ⟨vs, H1, I1, r, q⟩ => ⟨I1.kIn, ?_⟩) he hpl
  exact run_mkR M F hr hx I1 r q
/-- C.m is a static method: its record at p, its def at g -/
structure CStat (K : PySem.W.Frag) (C : Addr) (mc : Value) (m : Str) (p g : Addr) : Prop where
  at_ : PySem.W.findCls K (.ref C) mc m = some (.get (.builtin "staticmethod.__get__") (.ref p) .none (.ref C))
  rc : ∃ rest, PySem.W.recIn K p "staticmethod" = some (.ref g :: rest)
  kp : PySem.W.keepIn K (.ref g) = true
theorem getmethst_ok {pins : List (Addr × Obj)} {σ : L2.St} {H : Hp} {s : Shared} {A : Around} {E : Value → Shared → Prop} {pl : Sem Bool} {Q : Value × List Value → Shared → Prop} (I : Inv X pins σ H s) (r : ClX.CRead X.K C mc) (k : CStat X.K C mc m p g)
    (h : ∀ s', Inv X pins σ H s' → Q (.ref g, []) s') : wpAny (model X.prog X.w) A (getMethod (.ref C) m pl) Q E s := by
  obtain ⟨rest, hp⟩ := k.rc
  refine PySem.W.method_cls I.kIn r.ga (PySem.W.cls_bind I.kIn r.rd k.at_ ?_)
  exact wpAny_call (PySem.W.sm_get (s := { s with toks := s.toks + 1 }) I.kIn hp (PySem.W.handed_on rfl (h _ (I.tok _))))
/-- C.m(e, ..) -/
def tStat (C : Addr) (sp : Sp) (E : XK) (ta : TE) (t : TA) : TE := fun σ H Q => ta σ H fun x H1 => x = .ref C ∧ t σ H1 fun vs H2 => sp vs H2 Q E
theorem pe_stat {pl : Sem Bool} (he : PE X o ta) (r : ClX.CRead X.K C mc) (c : CStat X.K C mc m p g) (F : FnR X.prog X.w X.K X.mg X.base CX k g sp) (hr : Room k X.A) (hx : Passes CX X E) (ha : PA X (e :: es) t)
    (hst : starEach (e :: es) X.env = (false, eval e X.env) :: starEach es X.env := by rfl) (hpl : (backTo pos (starEach es X.env)).any (·.1) = false := by rfl)
    (ht : eval (.Call (.Attribute o m apos) (e :: es) [] pos) X.env = (do
      let ov ← eval o X.env
      standAt apos.atName
      let (f, first) ← holding [ov] (getMethod ov m pl)
      callWith pos f first (backTo pos (starEach (e :: es) X.env)) (backToKw pos (keywordEach [] X.env))) := by rfl) :
    PE X (.Call (.Attribute o m apos) (e :: es) [] pos) (tStat C sp E ta t) := by
  refine ⟨fun pins s σ H Q I h => PySem.W.methodCall_KW (pl := pl) (thn (he.run pins s σ H _ I h) fun u s1 ⟨x, H1, I1, rx, ex, q⟩ => ?_) ht⟩
  subst ex
  obtain rfl : u = Value.ref C := rx
  refine getmethst_ok I1 r c fun s2 I2 => ?_
  refine PySem.W.callWith_K (h₀ := X.base) I.ok.mod.kin c.kp (thn (ha.run pos pins s2 σ H1 _ I2 q) fun us s3 ⟨vs, H2, I3, rv, q2⟩ => ⟨I3.kIn, ?_⟩) hst hpl
  exact wpAny_call (run_fnR F hr hx I3 rv q2)
theorem pe_stat0 {pl : Sem Bool} (he : PE X o ta) (r : ClX.CRead X.K C mc) (c : CStat X.K C mc m p g) (F : FnR X.prog X.w X.K X.mg X.base CX k g sp) (hr : Room k X.A) (hx : Passes CX X E)
    (ht : eval (.Call (.Attribute o m apos) [] [] pos) X.env = (do
      let ov ← eval o X.env
      standAt apos.atName
      let (f, first) ← holding [ov] (getMethod ov m pl)
      callWith pos f first (backTo pos (starEach [] X.env)) (backToKw pos (keywordEach [] X.env))) := by rfl) :
    PE X (.Call (.Attribute o m apos) [] [] pos) (tStat C sp E ta tNil) := by
  refine ⟨fun pins s σ H Q I h => PySem.W.methodCall_KW (pl := pl) (thn (he.run pins s σ H _ I h) fun u s1 ⟨x, H1, I1, rx, ex, q⟩ => ?_) ht⟩
  subst ex
  obtain rfl : u = Value.ref C := rx
  refine getmethst_ok I1 r c fun s2 I2 => ?_
  exact PySem.W.callWith_K0 I2.kIn c.kp (wpAny_call (run_fnR (us := []) F hr hx I2 .nil q))
/-- C.m(k = v, ..) -/
theorem pe_statK {pl : Sem Bool} {fd : FuncData} {ps ks : List Str} {gu : List Value → List Value → List Value} {gV : List V → List V → List V} (he : PE X o ta) (r : ClX.CRead X.K C mc) (c : CStat X.K C mc m p g) (F : FnOk X.prog X.w X.K X.mg X.base CX k g fd ps sp) (hr : Room k X.A)
    (hb : KBinds X.K fd ps ks gu gV) (hx : Passes CX X E) (hkw : PK X kws tk) (hall : (backToKw pos (keywordEach kws X.env)).all (·.1.isSome) = true := by rfl) (hks : (backToKw pos (keywordEach kws X.env)).filterMap (·.1) = ks := by rfl)
    (hpl : ((backTo pos (starEach [] X.env)).any (·.1) || (backToKw pos (keywordEach kws X.env)).any (·.1.isNone)) = false := by rfl)
    (ht : eval (.Call (.Attribute o m apos) [] kws pos) X.env = (do
      let ov ← eval o X.env
      standAt apos.atName
      let (f, first) ← holding [ov] (getMethod ov m pl)
      callWith pos f first (backTo pos (starEach [] X.env)) (backToKw pos (keywordEach kws X.env))) := by rfl) :
    PE X (.Call (.Attribute o m apos) [] kws pos) (tStat C (fun zs => sp (gV [] zs)) E ta tk) := by
  refine ⟨fun pins s σ H Q I h => PySem.W.methodCall_KW (pl := pl) (thn (he.run pins s σ H _ I h) fun u s1 ⟨x, H1, I1, rx, ex, q⟩ => ?_) ht⟩
  subst ex
  obtain rfl : u = Value.ref C := rx
  refine getmethst_ok I1 r c fun s2 I2 => ?_
  refine PySem.W.callWith_KW0 (h₀ := X.base) I.ok.mod.kin c.kp hall (thn (hkw.run pos pins s2 σ H1 _ I2 q) fun ws s3 ⟨zs, H2, I3, rz, q2⟩ => ⟨I3.kIn, ?_⟩) hpl
  rw [hks]
  exact run_fnk (us := []) F hr hb hx I3 .nil rz q2
end

/-! ### what an own class says of in, not in, ==, len, truth -/
section
variable {X : Cx} {CX : CXT} {k : Nat} {C f : Addr} {fd : FuncData} {ps : List Str} {sp : Sp} {E : XK}
/-- an instance as the walk knows it -/
theorem ins_at {pins : List (Addr × Obj)} {σ : L2.St} {H : Hp} {s : Shared} {a dx : Addr} {fs : List (Str × V)} (I : Inv X pins σ H s) (e : H a = some (.ins C dx fs)) : ∃ (o : Obj) (od : Option Obj), PySem.W.InstAt s.heap a o C od := by
  obtain ⟨mA, O, _, _, _, _⟩ := ins_get I.hok e
  obtain ⟨od, J, _⟩ := O.look
  exact ⟨_, _, J⟩
/-- x in a: the own __contains__ answers a truth -/
def rInO (C : Addr) (sp : Sp) (E : XK) : R2 := fun x y H Q => ∃ (a dx : Addr) (fs : List (Str × V)), y = .ref a ∧ H a = some (.ins C dx fs) ∧ sp [.ref a, x] H (fun v H' => ∃ b, v = .bl b ∧ Q (.bl b) H') E
def rNotInO (C : Addr) (sp : Sp) (E : XK) : R2 := fun x y H Q => ∃ (a dx : Addr) (fs : List (Str × V)), y = .ref a ∧ H a = some (.ins C dx fs) ∧ sp [.ref a, x] H (fun v H' => ∃ b, v = .bl b ∧ Q (.bl (!b)) H') E
theorem op_inO (F : FnOk X.prog X.w X.K X.mg X.base CX k f fd ps sp) (hr : Room k X.A) (hb : Binds X.K fd ps []) (hx : Passes CX X E) (hs : PySem.W.findIn X.K (.ref C) "__contains__" = some (some (.ref f))) (hf : PySem.W.isFn X.K (.ref f) = true) : OpR X (compareOp .In) (rInO C sp E) := by
  intro pins s σ H x y v u Q I rx ry h
  obtain ⟨a, dx, fs, rfl, ha, q⟩ := h
  obtain rfl : u = Value.ref a := ry
  obtain ⟨o, od, J⟩ := ins_at I ha
  obtain ⟨m, hF⟩ := I.fr
  refine PySem.W.in_K hF I.ok.mod.kin J hs hf (thn (run_fn (us := [.ref a, v]) (vs := [.ref a, x]) F hr hb .nil hx I (.cons rfl (.cons rx .nil)) q) fun r s1 z => ?_)
  obtain ⟨w, H1, I1, rw1, b, rfl, q1⟩ := z
  cases rw1
  exact wpAny_truthy_bool ⟨.bl b, H1, I1, rfl, q1⟩
theorem op_notInO (F : FnOk X.prog X.w X.K X.mg X.base CX k f fd ps sp) (hr : Room k X.A) (hb : Binds X.K fd ps []) (hx : Passes CX X E) (hs : PySem.W.findIn X.K (.ref C) "__contains__" = some (some (.ref f))) (hf : PySem.W.isFn X.K (.ref f) = true) : OpR X (compareOp .NotIn) (rNotInO C sp E) := by
  intro pins s σ H x y v u Q I rx ry h
  obtain ⟨a, dx, fs, rfl, ha, q⟩ := h
  obtain rfl : u = Value.ref a := ry
  obtain ⟨o, od, J⟩ := ins_at I ha
  obtain ⟨m, hF⟩ := I.fr
  refine PySem.W.notIn_K hF I.ok.mod.kin J hs hf (thn (run_fn (us := [.ref a, v]) (vs := [.ref a, x]) F hr hb .nil hx I (.cons rfl (.cons rx .nil)) q) fun r s1 z => ?_)
  obtain ⟨w, H1, I1, rw1, b, rfl, q1⟩ := z
  cases rw1
  exact wpAny_truthy_bool ⟨.bl (!b), H1, I1, rfl, q1⟩
/-- a == b, both instances of the class -/
def rEqO (C : Addr) (sp : Sp) (E : XK) : R2 := fun x y H Q => ∃ (a b dx dy : Addr) (fs gs : List (Str × V)), x = .ref a ∧ y = .ref b ∧ H a = some (.ins C dx fs) ∧ H b = some (.ins C dy gs) ∧ sp [.ref a, .ref b] H (fun v H' => ∃ b, v = .bl b ∧ Q (.bl b) H') E
theorem op_eqO (F : FnOk X.prog X.w X.K X.mg X.base CX k f fd ps sp) (hr : Room k X.A) (hb : Binds X.K fd ps []) (hx : Passes CX X E) (hs : PySem.W.findIn X.K (.ref C) "__eq__" = some (some (.ref f))) (hf : PySem.W.isFn X.K (.ref f) = true) : OpR X (compareOp .Eq) (rEqO C sp E) := by
  intro pins s σ H x y v u Q I rx ry h
  obtain ⟨a, b, dx, dy, fs, gs, rfl, rfl, ha, hb2, q⟩ := h
  obtain rfl : v = Value.ref a := rx
  obtain rfl : u = Value.ref b := ry
  obtain ⟨o, od, J⟩ := ins_at I ha
  obtain ⟨o2, od2, J2⟩ := ins_at I hb2
  obtain ⟨m, hF⟩ := I.fr
  show wpAny (model X.prog X.w) X.A (richCompare .Eq (.ref a) (.ref b)) (EP X pins σ Q) X.xe s
  refine PySem.W.cmp_K (op := .Eq) (tb := .ref C) hr.units0 hF I.ok.mod.kin J J2.type (by simp [PySem.W.notFirst]) hs hf (thn (run_fn (us := [.ref a, .ref b]) (vs := [.ref a, .ref b]) F hr hb .nil hx I (.cons rfl (.cons rfl .nil)) q) fun r s1 z => ?_)
  obtain ⟨w, H1, I1, rw1, c, rfl, q1⟩ := z
  cases rw1
  exact ⟨.bl c, H1, I1, rfl, q1⟩
/-- len(a) -/
def rLenO (C : Addr) (sp : Sp) (E : XK) : List V → Hp → VK → Prop := fun xs H Q => ∃ (a dx : Addr) (fs : List (Str × V)), xs = [.ref a] ∧ H a = some (.ins C dx fs) ∧ sp [.ref a] H (fun v H' => ∃ n : Int, v = .int n ∧ 0 ≤ n ∧ n < 2 ^ 63 ∧ Q (.int n) H') E
end
/-! ### len, !=, truth of an own class -/
section
variable {prog : Program} {w : World} {A : Around} {E : Value → Shared → Prop} {s : Shared} {K : PySem.W.Frag} {x C L f : Addr} {h₀ : Heap} {m : Str → Option Value} {ox : Obj} {od : Option Obj} {b tb : Value}
theorem neO_entry {Q : Fin → Shared → Prop} (hu : A.units < cLine) (X : K.In s.heap) (I : PySem.W.InstAt s.heap x ox C od) (hs : PySem.W.findIn K (.ref C) "__eq__" = some (some (.ref f))) (hf : PySem.W.isFn K (.ref f) = true)
    (hcall : wpAny (model prog w) A (call (.ref f) [.ref x, b]) (fun v s' => ∃ c, v = .bool c ∧ Q (.done (.ret (.bool (!c)))) s') E s) :
    wpAny (model prog w) A (Builtin.«object.__ne__» ⟨[.ref x, b], []⟩) Q E s := by
  unfold Builtin.«object.__ne__»
  repeat (first
    | with_reducible refine wpAny_cRoomFor hu ?_
    | (refine wpAny_bind (m := callSpecialIfBound? (.ref x) (Str.ofString "__eq__") [b])
        (PySem.W.ifBound_K X I hs hf (wpAny_mono hcall (fun r s' hr => by
          obtain ⟨c, rfl, hq⟩ := hr
          repeat (first | exact hq | exact wpAny_pure hq | exact wpAny_truthy_bool hq | (refine wpAny_bind (m := truthy (.bool _)) (wpAny_truthy_bool ?_)) | wp_step)) fun _ _ e => e)))
    | wp_step)
theorem ifBound_objNe {M : Model} {args : List Value} {Q : Option Value → Shared → Prop} (X : K.In s.heap) (I : PySem.W.InstAt s.heap x ox C od) (hs : PySem.W.findIn K (.ref C) "__ne__" = some (some (.builtin "object.__ne__")))
    (h : wpAny M A (call (.builtin "object.__ne__") (.ref x :: args)) (fun v => Q (some v)) E s) : wpAny M A (callSpecialIfBound? (.ref x) "__ne__" args) Q E s := by
  simp only [callSpecialIfBound?, bindSpecialIfBound?]
  refine wpAny_holding (wpAny_bind (wpAny_bind (wpAny_bind (I.type.here ((PySem.W.looks_findIn X hs).here ?_)))))
  refine wpAny_bind (wpAny_askSetting (wpAny_ite ?_))
  have fin : wpAny M A (call (.builtin "object.__ne__") ([.ref x] ++ args) >>= fun v => pure (some v)) Q E s := wpAny_bind (wpAny_mono h (fun v s' h' => wpAny_pure h') fun _ _ h' => h')
  split
  · exact wpAny_bind (wpAny_of_eq (F.cmp_object.ne.bind _) (wpAny_pure (by exact fin)))
  · exact wpAny_tryCatch (wpAny_bind (wpAny_of_eq (F.cmp_object.ne.bind _) (wpAny_pure (by exact fin))))
theorem ne_own {Q : Value → Shared → Prop} (hu : A.units + 1 < cLine) (F : PyProof.Rows.Fr h₀ L s.heap m) (X₀ : K.In h₀) (I : PySem.W.InstAt s.heap x ox C od) (hb : PySem.W.Looks (model prog w) s.heap (typeOf b) tb) (hn : PySem.W.notFirst K C tb = true)
    (hm : PySem.W.mroIn K C (.type "object") = some true) (he : PySem.W.findIn K (.ref C) "__ne__" = some (some (.builtin "object.__ne__")))
    (hs : PySem.W.findIn K (.ref C) "__eq__" = some (some (.ref f))) (hf : PySem.W.isFn K (.ref f) = true)
    (h : wpAny (model prog w) A.in1 (call (.ref f) [.ref x, b]) (fun v s' => ∃ c, v = .bool c ∧ Q (.bool (!c)) s') E s) : wpAny (model prog w) A (richCompare .NotEq (.ref x) b) Q E s := by
  have X := X₀.keeps F.keep
  have one : wpAny (model prog w) A (tryCompare (.ref x) (cmpInfo .NotEq).2.1 b) (fun r s' => ∃ v, r = some v ∧ Q v s') E s := by
    unfold tryCompare
    refine wpAny_bind (ifBound_objNe X I he (wpAny_call (codeAny_call_builtin PySem.F.cmp_object.ne.plain PySem.F.cmpEntry_ne (PySem.W.check_slot PySem.F.cmpKind_ne PySem.F.cmpSplit_ne (I.type.andThen (PySem.W.looks_mroIn X hm)) (PySem.F.cmpArgs_ne _ _)
      (neO_entry (A := A.in1) hu X I hs hf (wpAny_mono h (fun v s' hv => ?_) fun _ _ e => e))))))
    obtain ⟨c, rfl, hq⟩ := hv
    exact ⟨c, rfl, wpAny_pure ⟨_, rfl, hq⟩⟩
  unfold richCompare
  simp only [oneThing_ref]
  refine wpAny_holding (wpAny_bind (wpAny_cRoomFor (Nat.lt_of_succ_lt hu) ?_))
  refine wpAny_bind (I.type.here (wpAny_bind (hb.here ?_)))
  split
  · rename_i q
    have e : PySem.W.subIn K tb (.ref C) = some false := by
      rcases Bool.or_eq_true_iff.mp hn with e | e
      · rw [beq_iff_eq.mp e] at q; simp at q
      · exact beq_iff_eq.mp e
    refine wpAny_bind ((PySem.W.looks_subIn X e).here ?_)
    simp only [Bool.false_eq_true, if_false]
    refine wpAny_bind (wpAny_mono one (fun r s' z => ?_) fun _ _ e => e)
    obtain ⟨v, rfl, hq⟩ := z
    exact wpAny_pure hq
  · refine wpAny_bind (wpAny_pure ?_)
    simp only [Bool.false_eq_true, if_false]
    refine wpAny_bind (wpAny_mono one (fun r s' z => ?_) fun _ _ e => e)
    obtain ⟨v, rfl, hq⟩ := z
    exact wpAny_pure hq
end
section
variable {X : Cx} {CX : CXT} {k : Nat} {C f : Addr} {fd : FuncData} {ps : List Str} {sp : Sp} {E : XK}
/-- the callee runs deeper -/
theorem run_fnA {A' : Around} {pins : List (Addr × Obj)} {σ : L2.St} {H : Hp} {s : Shared} {Q : VK} {us : List Value} {vs : List V} (F : FnOk X.prog X.w X.K X.mg X.base CX k f fd ps sp) (hr : Room k A') (hA : ∀ {s : Shared} {H : Hp}, Env0 X.prog X.w X.K X.mg X.base X.A X.stack s H → Env0 X.prog X.w X.K X.mg X.base A' X.stack s H) (hb : Binds X.K fd ps []) (hx : Passes CX X E)
    (I : Inv X pins σ H s) (r : Vals vs us) (h : sp vs H Q E) : wpAny (model X.prog X.w) A' (call (.ref f) us) (EP X pins σ Q) X.xe s := by
  have hl : (us ++ []).length = ps.length := by rw [List.append_nil, ← r.length]; exact F.len _ _ _ _ h
  have hb' := hb s us I.kIn hl
  rw [List.append_nil] at hb'
  refine wpAny_call (codeAny_mono (F.run A' X.stack s H ⟨us, []⟩ us vs Q E hr (hA I.env0) hb' r h) fun r s' hq => ?_)
  cases r with
  | error e => exact hx pins σ H s e s' I hq
  | ok fl =>
    cases fl with
    | ret u => exact I.after hq
    | next => exact False.elim hq
    | brk => exact False.elim hq
    | cont => exact False.elim hq
theorem run_fn1 {pins : List (Addr × Obj)} {σ : L2.St} {H : Hp} {s : Shared} {Q : VK} {us : List Value} {vs : List V} (F : FnOk X.prog X.w X.K X.mg X.base CX k f fd ps sp) (hr : Room (k + 1) X.A) (hb : Binds X.K fd ps []) (hx : Passes CX X E)
    (I : Inv X pins σ H s) (r : Vals vs us) (h : sp vs H Q E) : wpAny (model X.prog X.w) X.A.in1 (call (.ref f) us) (EP X pins σ Q) X.xe s := run_fnA F hr.in1 (fun e => e.in1) hb hx I r h
theorem call_lenO (F : FnOk X.prog X.w X.K X.mg X.base CX k f fd ps sp) (hr : Room (k + 1) X.A) (hb : Binds X.K fd ps []) (hx : Passes CX X E) (hs : PySem.W.findIn X.K (.ref C) "__len__" = some (some (.ref f))) (hf : PySem.W.isFn X.K (.ref f) = true) : CallR X (.builtin "len") (rLenO C sp E) := by
  intro pins s σ H xs us Q I r h
  obtain ⟨a, dx, fs, rfl, ha, q⟩ := h
  obtain ⟨u, rfl, ru⟩ := vals1 r
  obtain rfl : u = Value.ref a := ru
  obtain ⟨o, od, J⟩ := ins_at I ha
  obtain ⟨m, hF⟩ := I.fr
  refine PySem.W.len_K hF I.ok.mod.kin J hs hf (thn (run_fn1 (us := [.ref a]) (vs := [.ref a]) F hr hb hx I (.cons rfl .nil) q) fun v s1 z => ?_)
  obtain ⟨w', H1, I1, rw1, n, rfl, h0, h1, q1⟩ := z
  obtain ⟨t, rfl⟩ := rw1
  exact ⟨⟨h0, h1⟩, .int n, H1, I1.tok _, ⟨_, rfl⟩, q1⟩
/-- a != b, both instances of the class, whose __eq__ is its own -/
def rNeO (C : Addr) (sp : Sp) (E : XK) : R2 := fun x y H Q => ∃ (a b dx dy : Addr) (fs gs : List (Str × V)), x = .ref a ∧ y = .ref b ∧ H a = some (.ins C dx fs) ∧ H b = some (.ins C dy gs) ∧ sp [.ref a, .ref b] H (fun v H' => ∃ b, v = .bl b ∧ Q (.bl (!b)) H') E
theorem op_neO (F : FnOk X.prog X.w X.K X.mg X.base CX k f fd ps sp) (hr : Room (k + 1) X.A) (hb : Binds X.K fd ps []) (hx : Passes CX X E) (hm : PySem.W.mroIn X.K C (.type "object") = some true) (he : PySem.W.findIn X.K (.ref C) "__ne__" = some (some (.builtin "object.__ne__")))
    (hs : PySem.W.findIn X.K (.ref C) "__eq__" = some (some (.ref f))) (hf : PySem.W.isFn X.K (.ref f) = true) : OpR X (compareOp .NotEq) (rNeO C sp E) := by
  intro pins s σ H x y v u Q I rx ry h
  obtain ⟨a, b, dx, dy, fs, gs, rfl, rfl, ha, hb2, q⟩ := h
  obtain rfl : v = Value.ref a := rx
  obtain rfl : u = Value.ref b := ry
  obtain ⟨o, od, J⟩ := ins_at I ha
  obtain ⟨o2, od2, J2⟩ := ins_at I hb2
  obtain ⟨m, hF⟩ := I.fr
  show wpAny (model X.prog X.w) X.A (richCompare .NotEq (.ref a) (.ref b)) (EP X pins σ Q) X.xe s
  have hu := hr.units
  refine ne_own (tb := .ref C) (by omega) hF I.ok.mod.kin J J2.type (by simp [PySem.W.notFirst]) hm he hs hf (thn (run_fn1 (us := [.ref a, .ref b]) (vs := [.ref a, .ref b]) F hr hb hx I (.cons rfl (.cons rfl .nil)) q) fun r s1 z => ?_)
  obtain ⟨w, H1, I1, rw1, c, rfl, q1⟩ := z
  cases rw1
  exact ⟨c, rfl, .bl (!c), H1, I1, rfl, q1⟩
/-- the truth of an instance with an own __len__ and no __bool__ -/
def rTruO (C : Addr) (sp : Sp) (E : XK) : V → Hp → (Bool → Hp → Prop) → Prop := fun x H Q => ∃ (a dx : Addr) (fs : List (Str × V)), x = .ref a ∧ H a = some (.ins C dx fs) ∧ sp [.ref a] H (fun v H' => ∃ n : Int, v = .int n ∧ 0 ≤ n ∧ n < 2 ^ 63 ∧ Q (n != 0) H') E
theorem tru_own {A : Around} {pins : List (Addr × Obj)} {σ : L2.St} {H : Hp} {s : Shared} {R : Bool → Shared → Prop} {a dx : Addr} {fs : List (Str × V)} (I : Inv X pins σ H s) (ha : H a = some (.ins C dx fs))
    (hn : PySem.W.findIn X.K (.ref C) "__bool__" = some none) (hs : PySem.W.findIn X.K (.ref C) "__len__" = some (some (.ref f))) (hf : PySem.W.isFn X.K (.ref f) = true)
    (h : wpAny (model X.prog X.w) A.in1 (call (.ref f) [.ref a]) (fun v s' => ∃ n t, v = .int n t ∧ 0 ≤ n ∧ n < 2 ^ 63 ∧ R (n != 0) { s' with toks := s'.toks + 1 }) X.xe s) : wpAny (model X.prog X.w) A (truthy (.ref a)) R X.xe s := by
  obtain ⟨o, od, J⟩ := ins_at I ha
  obtain ⟨m, hF⟩ := I.fr
  have XI := I.kIn
  unfold truthy
  refine wpAny_bind (m := callSpecial? (.ref a) (Str.ofString "__bool__")) (wpAny_bind (wpAny_bind (J.type.here ((PySem.W.looks_findIn XI hn).here (wpAny_pure ?_)))))
  refine wpAny_bind (wpAny_bind (J.type.here ((PySem.W.looks_findIn XI hs).here ?_)))
  show wpAny _ _ (if (some (Value.ref f)).isNone = true then _ else _) _ _ _
  rw [if_neg (by simp)]
  refine wpAny_bind (m := runValue (.builtin "len" ⟨[.ref a], []⟩)) (wpAny_runValue (codeAny_builtin PySem.entry_len ?_))
  unfold Builtin.«len»
  refine wpAny_bind (m := oneArg "len" _) (wpAny_pure ?_)
  refine wpAny_bind (m := callSpecial? (.ref a) (Str.ofString "__len__")) (PySem.W.special_fn XI J hs (beq_iff_eq.mp hf) (wpAny_mono h (fun r s' hr => ?_) fun _ _ y => y))
  obtain ⟨n, t, rfl, h0, h1, hq⟩ := hr
  refine wpAny_bind (wpAny_holding (wpAny_pure ?_))
  refine wpAny_bind (wpAny_letGo ?_)
  show wpAny _ _ (if n < 0 then _ else _) _ _ _
  rw [if_neg (by omega)]
  show wpAny _ _ (if n ≥ 2 ^ 63 then _ else _) _ _ _
  rw [if_neg (by omega)]
  exact wpAny_bind (wpAny_mkInt (wpAny_pure (wpAny_pure hq)))
theorem tru_lenO (F : FnOk X.prog X.w X.K X.mg X.base CX k f fd ps sp) (hr : Room (k + 1) X.A) (hb : Binds X.K fd ps []) (hx : Passes CX X E) (hn : PySem.W.findIn X.K (.ref C) "__bool__" = some none) (hs : PySem.W.findIn X.K (.ref C) "__len__" = some (some (.ref f)))
    (hf : PySem.W.isFn X.K (.ref f) = true) : TruR X (rTruO C sp E) := by
  intro pins s σ H x v Q I rx h
  obtain ⟨a, dx, fs, rfl, ha, q⟩ := h
  obtain rfl : v = Value.ref a := rx
  refine tru_own I ha hn hs hf (thn (run_fn1 (us := [.ref a]) (vs := [.ref a]) F hr hb hx I (.cons rfl .nil) q) fun r s1 z => ?_)
  obtain ⟨w', H1, I1, rw1, n, rfl, h0, h1, q1⟩ := z
  obtain ⟨t, rfl⟩ := rw1
  exact ⟨n, t, rfl, h0, h1, H1, I1.tok _, q1⟩
end
section
variable {prog : Program} {w : World} {A : Around} {E : Value → Shared → Prop} {s : Shared} {a : Addr}
theorem bool_own {R : Value → Shared → Prop} (h : ∀ A', A' = A.in1.in1 → wpAny (model prog w) A' (truthy (.ref a)) (fun b s' => R (.bool b) s') E s) : wpAny (model prog w) A (call (.type "bool") [.ref a]) R E s := by
  refine callType_codes (Q₁ := fun obj s₁ => s₁.TypeIs obj "bool" ∧ R obj s₁) PySem.F.called_bool (PySem.F.typeCall_bool_1 _) PySem.F.entry_object_init ?_ fun obj s₁ h₁ => ?_
  · refine codeAny_of_tree ?_
    show wpAny _ A.in1.in1 (do checkBuiltinCall "bool.__new__" ⟨[.type "bool", .ref a], []⟩; again (.builtin "bool.__new__" ⟨[.type "bool", .ref a], []⟩)) _ _ s
    refine wpAny_bind (wpAny_of_eq (PySem.F.newCall_bool_1 _) (wpAny_pure ⟨plainId_quiet (by decide +kernel) _, codeAny_builtin PySem.F.entry_bool_new ?_⟩))
    rw [Around.under_plainId (by decide +kernel) _]
    have f1 := PySem.F.conv_sub_bool
    obtain ⟨hp, g, d, tk, os⟩ := s
    repeat (any_goals (first | assumption | (with_reducible refine wpAny_mono (h _ ?_) (fun b s' z => ?_) fun _ _ z => z) | wp_step))
    · rfl
    · exact ⟨rfl, z⟩
  · exact ⟨h₁.1, PySem.F.args_object_init_2 obj _, object_init_meets PySem.F.called_bool.init.lookup PySem.F.called_bool.made (by decide) prog w A.in1 _ s₁ ⟨h₁.1, rfl, h₁.2⟩⟩
end
section
variable {X : Cx} {CX : CXT} {k : Nat} {C f : Addr} {fd : FuncData} {ps : List Str} {sp : Sp} {E : XK}
/-- bool(x) of an instance with an own __len__ -/
def rBoolO (C : Addr) (sp : Sp) (E : XK) : List V → Hp → VK → Prop := fun xs H Q => ∃ (a dx : Addr) (fs : List (Str × V)), xs = [.ref a] ∧ H a = some (.ins C dx fs) ∧ sp [.ref a] H (fun v H' => ∃ n : Int, v = .int n ∧ 0 ≤ n ∧ n < 2 ^ 63 ∧ Q (.bl (n != 0)) H') E
theorem call_boolO (F : FnOk X.prog X.w X.K X.mg X.base CX k f fd ps sp) (hr : Room (k + 3) X.A) (hb : Binds X.K fd ps []) (hx : Passes CX X E) (hn : PySem.W.findIn X.K (.ref C) "__bool__" = some none) (hs : PySem.W.findIn X.K (.ref C) "__len__" = some (some (.ref f)))
    (hf : PySem.W.isFn X.K (.ref f) = true) : CallR X (.type "bool") (rBoolO C sp E) := by
  intro pins s σ H xs us Q I r h
  obtain ⟨a, dx, fs, rfl, ha, q⟩ := h
  obtain ⟨u, rfl, ru⟩ := vals1 r
  obtain rfl : u = Value.ref a := ru
  refine bool_own fun A' e => ?_
  subst e
  refine tru_own I ha hn hs hf (thn (run_fnA (us := [.ref a]) (vs := [.ref a]) F hr.in1.in1.in1 (fun e => e.in1.in1.in1) hb hx I (.cons rfl .nil) q) fun r s1 z => ?_)
  obtain ⟨w', H1, I1, rw1, n, rfl, h0, h1, q1⟩ := z
  obtain ⟨t, rfl⟩ := rw1
  exact ⟨n, t, rfl, h0, h1, .bl (n != 0), H1, I1.tok _, rfl, q1⟩
/-- not x, by a truth that is told -/
theorem pe_notT {r : V → Hp → (Bool → Hp → Prop) → Prop} {a : Expr} {ta : TE} {pos : Pos} (hc : TruR X r) (ha : PE X a ta) : PE X (.UnaryOp .Not a pos) (fun σ H Q => ta σ H fun x H1 => r x H1 fun b H2 => Q (.bl (!b)) H2) := by
  refine ⟨fun pins s σ H Q I h => ?_⟩
  refine UnaryOp_ (thn (ha.run pins s σ H _ I h) fun v s1 ⟨x, H1, I1, r1, q1⟩ => ?_)
  exact not_of (thn (hc pins s1 σ H1 x v _ I1 r1 q1) fun b s2 ⟨H2, I2, q2⟩ => ⟨.bl (!b), H2, I2, rfl, q2⟩)
end
/-! ### iteration over an instance whose own __iter__ hands on the iterator of a tuple -/
/-- at it an iterator over the tuple at l, at its begin -/
def ItTO (l it : Addr) : HO := .ext fun h => h.IsTupleIter it l 0
section
variable {X : Cx}
/-- iter(t), t a tuple -/
def rIterT (K : PySem.W.Frag) (n : Nat) : List V → Hp → VK → Prop := fun xs H Q => ∃ (l : Addr) (zs : List V), xs = [.ref l] ∧ SqT K H l zs ∧ ∀ it, H it = Option.none → n ≤ it → Q (.ref it) (upd H it (ItTO l it))
theorem call_iterT : CallR X (.builtin "iter") (rIterT X.K X.s_0.heap.objs.size) := by
  intro pins s σ H xs us Q I r h
  obtain ⟨l, zs, rfl, hq, q⟩ := h
  obtain rfl := Vals.ref1 r
  obtain ⟨its, rv, pl, hz⟩ := I.tuple hq
  refine Calls.call_function_entry (by decide +kernel) (by decide +kernel) PySem.W.kdk_entry_iter (PySem.W.kdk_args_iter _) ?_
  unfold Builtin.«iter»
  refine wpAny_bind (m := someArgs "iter" 1 2 _) (wpAny_of_eq (a := [Value.ref l]) (by first | rfl | kernel_rfl!) ?_)
  show wpAny _ _ (pyIter (.ref l) >>= _) _ _ _
  refine wpAny_bind (wpAny_pyIter_tuple pl ?_)
  have st : (s.heap.push { cls := .type "tuple_iterator", data := .fields #[.ref l, .int 0 0] }).IsTupleIter s.heap.objs.size l 0 := ⟨_, Heap.get?_push_size _ rfl, rfl, rfl⟩
  exact wpAny_pure ⟨_, rfl, .ref s.heap.objs.size, _, I.laid (t' := s.toks) (o := ItTO l s.heap.objs.size) (fun b u e => Heap.get?_push_of_some _ e) (Nat.le_refl _) ⟨st, ⟨_, Heap.get?_push_size _ rfl⟩, fun h1 h2 q k => q.at fun o e => k o e⟩, rfl, q _ (I.hok.fresh (Nat.le_refl _)) I.sz⟩
/-- a def that is told of the room's size at its call -/
def FnN (P : Program) (w : World) (K : PySem.W.Frag) (mg : Str → Option Value) (base : Heap) (CX : CXT) (k : Nat) (f : Addr) (sp : Nat → Sp) : Prop :=
  ∀ (A : Around) (outer : List Env) (s : Shared) (H : Hp) (us : List Value) (vs : List V) (Q : VK) (E : XK), Room k A → Env0 P w K mg base A outer s H → Vals vs us → sp s.heap.objs.size vs H Q E →
    codeAny (model P w) A (.call (.ref f) { pos := us, kw := [] }) (CR CX outer P w H s Q E) s
theorem FnN.mk0 {P : Program} {w : World} {K : PySem.W.Frag} {mg : Str → Option Value} {base : Heap} {k : Nat} {x qual : Str} {st : Stmt} {f : Addr} {fd : FuncData} {N ps : List Str} {sp : Nat → Sp}
    (F : Fun K x qual st f fd) (S : FnScope N ps (defScope st)) (B : Binds K fd ps []) (len : ∀ n vs H Q E, sp n vs H Q E → vs.length = ps.length)
    (go : ∀ (cdv : Value) (A : Around) (outer : List Env) (s : Shared) (H : Hp) (vs : List V) (Q : VK) (E : XK), Room k (A.deeper (envOfC qual (defScope st) s.heap.objs.size f cdv)) → sp s.heap.objs.size vs H Q E →
      ∃ t, PSs (cxOf CX0 P w K mg base N qual (defScope st) f cdv A outer s H E).nox (defBody st) t ∧ t { nx := fun _ H1 => Q .non H1, rt := Q } (start N vs) H) : FnN P w K mg base CX0 (k + 1) f sp := by
  obtain ⟨oc, od, kV, doc, pm, an, cdv, ct, osl, e, lk, hcd⟩ := F.ex
  subst e
  intro A outer s H us vs Q E hr e0 rv hs
  have hl := len _ _ _ _ _ hs
  have hu : (us ++ []).length = ps.length := by rw [List.append_nil, ← hl]; exact rv.length.symm
  have b := B s us (e0.mod.kin.keeps fun b o z => (e0.bs b o z).1) hu
  rw [List.append_nil] at b
  exact LamX.run_ofS lk hcd S hr e0 b rv hl fun hr1 => by
    obtain ⟨t, ht, q⟩ := go cdv A outer s H vs Q E hr1 hs
    exact ⟨t, ht.nox, q⟩
variable {CX : CXT} {k : Nat} {C f : Addr} {sp : Nat → Sp} {E : XK} {tg iter : Expr} {te : TE}
def iOwnT (K : PySem.W.Frag) (C : Addr) (sp : Nat → Sp) (E : XK) (te : TE) : TI := fun σ H R => te σ H fun x H1 => ∃ (a dx : Addr) (fs : List (Str × V)), x = .ref a ∧ H1 a = some (.ins C dx fs) ∧
  ∀ n, sp n [.ref a] H1 (fun v H2 => ∃ it l, v = .ref it ∧ n ≤ it ∧ H2 it = some (ItTO l it) ∧ R (Itt K l) (ItX.dropH H2 it)) E
theorem pi_ownT (he : PE X iter te) (F : FnN X.prog X.w X.K X.mg X.base CX k f sp) (hr : Room k X.A) (hx : Passes CX X E) (hs : PySem.W.findIn X.K (.ref C) "__iter__" = some (some (.ref f))) (hf : PySem.W.isFn X.K (.ref f) = true) : PI X tg iter (iOwnT X.K C sp E te) := by
  refine ⟨fun pins s σ H R I h => ?_⟩
  refine thn (he.run pins s σ H _ I h) fun u s1 ⟨x, H1, I1, rx, a, dx, fs, ex, ha, q⟩ => ?_
  subst ex
  obtain rfl : u = Value.ref a := rx
  obtain ⟨o, od, J⟩ := ins_at I1 ha
  obtain ⟨m, hF⟩ := I1.fr
  refine PySem.W.owit_iter hF I1.ok.mod.kin J hs hf (wpAny_call (codeAny_mono (F X.A X.stack s1 H1 [.ref a] [.ref a] _ E hr I1.env0 (.cons rfl .nil) (q _)) fun r s' hq => ?_))
  cases r with
  | error e => exact hx pins σ H1 s1 e s' I1 hq
  | ok fl =>
    cases fl with
    | next => exact False.elim hq
    | brk => exact False.elim hq
    | cont => exact False.elim hq
    | ret u =>
      obtain ⟨v, H2, I2, rv, it, l, ev, hn, hi, qR⟩ := I1.after hq
      subst ev
      obtain rfl : u = Value.ref it := rv
      have st : s'.heap.IsTupleIter it l 0 := (I2.hok it _ hi).1
      show PySem.W.OwitIt _ _ _ _ _ _
      unfold PySem.W.OwitIt specialOf
      refine wpAny_bind (wpAny_typeOf st.typeIs ?_)
      refine wpAny_of_eq PySem.F.slot_tuple_iterator_next.lookup ?_
      have hi' := hi
      unfold ItTO at hi'
      refine ⟨it, [it], _, _, ItX.dropH H2 it, rfl, ItX.inv_drop I2 hi', turn_tuple l it, st, fun b hb => ?_, qR⟩
      have e : b = it := by simpa using hb
      rw [e]
      exact ItX.inv_fp I2 hi (Nat.le_trans I1.sz hn)
theorem sqT_drop {K : PySem.W.Frag} {H : Hp} {a it : Addr} {xs : List V} (h : SqT K H a xs) (n : it ≠ a) : SqT K (ItX.dropH H it) a xs := by
  have e : ItX.dropH H it a = H a := ItX.dropH_ne (Ne.symm n)
  unfold SqT Rd at h ⊢
  simp only [e]
  exact h
end

/-- what the class says of such a sign with an int behind it -/
structure OwnBin (K : PySem.W.Frag) (C f : Addr) (op : Operator) : Prop where
  hc : PySem.W.selfFirst K C = true
  hs : PySem.W.findIn K (.ref C) (PySem.dunder op.info.2) = some (some (.ref f))
  hf : PySem.W.isFn K (.ref f) = true
  hr : PySem.W.findIn K (.ref C) (PySem.dunderR op.info.2) = some Option.none
  h1 : ∃ fo, PySem.W.findIn K (.type "int") (PySem.dunder op.info.2) = some fo
  h2 : ∃ ro, PySem.W.findIn K (.type "int") (PySem.dunderR op.info.2) = some ro
  hsub : PySem.W.subIn K (.type "int") (.ref C) = some false
/-- no class along the line has the name -/
def mroNone (K : PySem.W.Frag) (C : Addr) (nm : Str) : Prop := ∃ cd, PySem.W.clsIn K C = some cd ∧ ∀ c ∈ cd.mro, PySem.W.findIn K c nm = some Option.none

/-! ### a + i, a - i, a * i, a // i, -a of an instance whose method is its own -/
section
variable {X : Cx} {CX : CXT} {k : Nat} {C f : Addr} {fd : FuncData} {ps : List Str} {sp : Sp} {E : XK}
def rBinO (C : Addr) (sp : Sp) (E : XK) : R2 := fun x y H Q => ∃ (a dx : Addr) (fs : List (Str × V)) (i : Int), x = .ref a ∧ y = .int i ∧ H a = some (.ins C dx fs) ∧ sp [.ref a, .int i] H (fun v H' => ∃ b, v = .ref b ∧ Q (.ref b) H') E
theorem op_binO {op : Operator} (O : OwnBin X.K C f op) (F : FnOk X.prog X.w X.K X.mg X.base CX k f fd ps sp) (hr : Room k X.A) (hb : Binds X.K fd ps []) (hx : Passes CX X E) : OpR X (binaryOp op) (rBinO C sp E) := by
  intro pins s σ H x y v u Q I rx ry h
  obtain ⟨a, dx, fs, i, rfl, rfl, ha, q⟩ := h
  obtain rfl : v = Value.ref a := rx
  obtain ⟨t, rfl⟩ := ry
  obtain ⟨o, od, J⟩ := ins_at I ha
  obtain ⟨m, hF⟩ := I.fr
  obtain ⟨fo, h1⟩ := O.h1
  obtain ⟨ro, h2⟩ := O.h2
  refine PySem.W.ksp_binT (T := "int") hF I.ok.mod.kin J rfl O.hc O.hs O.hf O.hr (.inl rfl) h1 h2 O.hsub (thn (run_fn (us := [.ref a, .int i t]) (vs := [.ref a, .int i]) F hr hb .nil hx I (.cons rfl (.cons ⟨t, rfl⟩ .nil)) q) fun r s1 z => ?_)
  obtain ⟨w, H1, I1, rw1, b, rfl, q1⟩ := z
  cases rw1
  exact ⟨.ref b, H1, I1, rfl, q1⟩
def rNegO (C : Addr) (sp : Sp) (E : XK) : V → Hp → VK → Prop := fun x H Q => ∃ (a dx : Addr) (fs : List (Str × V)), x = .ref a ∧ H a = some (.ins C dx fs) ∧ sp [.ref a] H Q E
theorem un_negO (F : FnOk X.prog X.w X.K X.mg X.base CX k f fd ps sp) (hr : Room k X.A) (hb : Binds X.K fd ps []) (hx : Passes CX X E) (hs : PySem.W.findIn X.K (.ref C) "__neg__" = some (some (.ref f))) (hf : PySem.W.isFn X.K (.ref f) = true) : UnR X (unaryOp .USub) (rNegO C sp E) := by
  intro pins s σ H x v Q I rx h
  obtain ⟨a, dx, fs, rfl, ha, q⟩ := h
  obtain rfl : v = Value.ref a := rx
  obtain ⟨o, od, J⟩ := ins_at I ha
  obtain ⟨m, hF⟩ := I.fr
  exact PySem.W.ksp_neg hF I.ok.mod.kin J hs hf (run_fn (us := [.ref a]) (vs := [.ref a]) F hr hb .nil hx I (.cons rfl .nil) q)
/-- C(e, *es), C an own class -/
theorem pe_mkRS {e : Expr} {es : List Expr} {x : Str} {q pos : Pos} {t : TA} {sp : Sp} (M : Mk X.K C f) (F : FnR X.prog X.w X.K X.mg X.base CX k f sp) (hr : Room (k + 1) X.A) (hx : Passes CX X E) (hg : Gl X x) (hm : X.mg x = some (.ref C)) (ha : PA X (e :: es) t)
    (hdb : (x == ("__debug__" : Str)) = false := by decide) (he : starEach (e :: es) X.env = (false, eval e X.env) :: starEach es X.env := by rfl) (hst : (backTo pos (starEach es X.env)).any (·.1) = true := by rfl) : PE X (.Call (.Name x q) (e :: es) [] pos) (tMkR C sp E t) := by
  refine ⟨fun pins s σ H Q I h => wpAny_Call_Name_kw (ld_glob I hg hm ?_ hdb)⟩
  refine PySem.W.callWith_S2 (h₀ := X.base) I.ok.mod.kin M.kp (thn (ha.run pos pins s σ H _ I h) fun us s1 ⟨vs, H1, I1, r, q⟩ => ⟨I1.kIn, ?_⟩) he hst
  exact run_mkR M F hr hx I1 r q
end
/-- what is not reached -/
def tNo : TE := fun _ _ _ => False
theorem pe_no {X : Cx} {e : Expr} : PE X e tNo := ⟨fun _ _ _ _ _ _ h => h.elim⟩

/-! ### x op= i, x an instance without a method of its own for it -/
section
variable {prog : Program} {w : World} {M : Model} {A : Around} {E : Value → Shared → Prop} {s : Shared} {K : PySem.W.Frag} {x C L f : Addr} {h₀ : Heap} {m : Str → Option Value} {ox : Obj} {od : Option Obj} {nm T : String}
theorem fillsI0 {h : Heap} {add : Bool} (X : K.In h) (hm : mroNone K C (PySem.dunderI nm)) : PySem.W.Looks M h (fillsInplaceSlot (.ref C) nm add) false := by
  obtain ⟨cd, hc, hn⟩ := hm
  intro A Q E s k q
  have Lm : PySem.W.Looks M h (mroOf (.ref C)) cd.mro := (PySem.W.looks_clsIn X hc).andThen (f := fun cd => pure cd.mro) .now
  have Lm' := Lm.keeps k
  obtain ⟨hh, g, d, tt, os⟩ := s
  have X' : K.In hh := X.keeps k
  unfold fillsInplaceSlot
  refine wpAny_bind (Lm'.at ?_)
  clear Lm Lm'
  generalize cd.mro = l at hn
  induction l with
  | nil => exact wpAny_pure q
  | cons c r ih =>
    rw [List.anyM_cons]
    refine wpAny_bind (wpAny_bind ((PySem.W.looks_findIn X' (hn c (List.mem_cons_self ..))).at (wpAny_pure ?_)))
    exact ih fun c' hc' => hn c' (List.mem_cons_of_mem _ hc')
theorem bin1_own {nm' : String} {i : Int} {t : Tok} {fo ro : Option Value} {Q : Value → Shared → Prop} (F : PyProof.Rows.Fr h₀ L s.heap m) (X₀ : K.In h₀) (I : PySem.W.InstAt s.heap x ox C od) (hc : PySem.W.selfFirst K C = true)
    (hs : PySem.W.findIn K (.ref C) (PySem.dunder nm') = some (some (.ref f))) (hf : PySem.W.isFn K (.ref f) = true) (hr : PySem.W.findIn K (.ref C) (PySem.dunderR nm') = some Option.none)
    (h1 : PySem.W.findIn K (.type "int") (PySem.dunder nm') = some fo) (h2 : PySem.W.findIn K (.type "int") (PySem.dunderR nm') = some ro) (hsub : PySem.W.subIn K (.type "int") (.ref C) = some false)
    (h : wpAny (model prog w) A (call (.ref f) [.ref x, .int i t]) (PySem.W.CmpBack Q) E s) : wpAny (model prog w) A (binaryOp1 nm' (.ref x) (.int i t)) (fun r s' => ∃ v, r = some v ∧ Q v s') E s := by
  have X := X₀.keeps F.keep
  obtain ⟨cd, rest, hcd, hmr⟩ := PySem.W.ksp_first hc
  have one := PySem.W.ksp_try X I hs hf h
  obtain ⟨hh, g, d, tt, os⟩ := s
  have L1 : PySem.W.Looks (model prog w) hh (typeOf (.ref x)) (.ref C) := I.type
  have L2 : PySem.W.Looks (model prog w) hh (typeOf (.int i t)) (.type "int") := PySem.W.Looks.of_pure rfl
  have L3 : PySem.W.Looks (model prog w) hh (fillsNumberSlot (.ref C) nm') true := PySem.W.fills_K X hcd hmr hs
  have L4 : PySem.W.Looks (model prog w) hh (fillsNumberSlot (.type "int") nm') ((fo.isSome && !isSeqSlot fo) || (ro.isSome && !isSeqSlot ro)) := PySem.W.ksp_fillsT X h1 h2
  have L5 : PySem.W.Looks (model prog w) hh (isSubtype (.type "int") (.ref C)) false := PySem.W.looks_subIn X hsub
  have L6 : PySem.W.Looks (model prog w) hh (numberSlotInPython (.ref C) nm') true := PySem.W.ksp_inPy X hs hr (.inl rfl)
  have L7 : PySem.W.Looks (model prog w) hh (numberSlotInPython (.type "int") nm') false := PySem.W.Looks.of_pure rfl
  have L8 : PySem.W.Looks (model prog w) hh (typeLookup (.type "int") (PySem.dunderR nm')) ro := PySem.W.looks_findIn X h2
  generalize ((fo.isSome && !isSeqSlot fo) || (ro.isSome && !isSeqSlot ro)) = right at L4
  have hne : (Value.ref C == Value.type "int") = false := Bool.eq_false_iff.mpr fun q => by cases beq_iff_eq.mp q
  unfold binaryOp1
  refine wpAny_bind (L1.at (wpAny_bind (L2.at (wpAny_bind (L3.at ?_)))))
  simp only [hne, Bool.false_eq_true, if_false]
  cases right with
  | false =>
    ksp_lk
    refine wpAny_mono one (fun r s' hr' => ?_) fun _ _ e => e
    obtain ⟨v, rfl, hq⟩ := hr'
    ksp_lk
    exact ⟨v, rfl, hq⟩
  | true =>
    ksp_lk
    refine wpAny_mono one (fun r s' hr' => ?_) fun _ _ e => e
    obtain ⟨v, rfl, hq⟩ := hr'
    ksp_lk
    exact ⟨v, rfl, hq⟩
theorem inplace_own {op : Operator} {i : Int} {t : Tok} {fo ro : Option Value} {Q : Value → Shared → Prop} (F : PyProof.Rows.Fr h₀ L s.heap m) (X₀ : K.In h₀) (I : PySem.W.InstAt s.heap x ox C od) (hm : mroNone K C (PySem.dunderI op.info.2)) (hc : PySem.W.selfFirst K C = true)
    (hs : PySem.W.findIn K (.ref C) (PySem.dunder op.info.2) = some (some (.ref f))) (hf : PySem.W.isFn K (.ref f) = true) (hr : PySem.W.findIn K (.ref C) (PySem.dunderR op.info.2) = some Option.none)
    (h1 : PySem.W.findIn K (.type "int") (PySem.dunder op.info.2) = some fo) (h2 : PySem.W.findIn K (.type "int") (PySem.dunderR op.info.2) = some ro) (hsub : PySem.W.subIn K (.type "int") (.ref C) = some false)
    (h : wpAny (model prog w) A (call (.ref f) [.ref x, .int i t]) (PySem.W.CmpBack Q) E s) : wpAny (model prog w) A (inplaceOp op (.ref x) (.int i t)) Q E s := by
  have one := bin1_own F X₀ I hc hs hf hr h1 h2 hsub h
  have L0 : PySem.W.Looks (model prog w) s.heap (fillsInplaceSlot (.ref C) op.info.2 (op == .Add)) false := fillsI0 (X₀.keeps F.keep) hm
  unfold inplaceOp
  refine wpAny_holding ?_
  refine wpAny_bind (I.type.here ?_)
  refine wpAny_bind (L0.here ?_)
  rw [if_neg Bool.false_ne_true]
  refine wpAny_bind (m := binaryOp1 op.info.2 (.ref x) (.int i t)) (wpAny_mono one (fun r s' hr' => ?_) fun _ _ e => e)
  obtain ⟨v, rfl, hq⟩ := hr'
  exact wpAny_pure hq
end
section
variable {X : Cx} {CX : CXT} {k : Nat} {C f : Addr} {fd : FuncData} {ps : List Str} {sp : Sp} {E : XK}
theorem ip_own {op : Operator} (O : OwnBin X.K C f op) (hm : mroNone X.K C (PySem.dunderI op.info.2)) (F : FnOk X.prog X.w X.K X.mg X.base CX k f fd ps sp) (hr : Room k X.A) (hb : Binds X.K fd ps []) (hx : Passes CX X E) : PIp X op (rBinO C sp E) := by
  intro pins s σ H x y v u Q I rx ry h
  obtain ⟨a, dx, fs, i, rfl, rfl, ha, q⟩ := h
  obtain rfl : v = Value.ref a := rx
  obtain ⟨t, rfl⟩ := ry
  obtain ⟨o, od, J⟩ := ins_at I ha
  obtain ⟨m, hF⟩ := I.fr
  obtain ⟨fo, h1⟩ := O.h1
  obtain ⟨ro, h2⟩ := O.h2
  refine inplace_own hF I.ok.mod.kin J hm O.hc O.hs O.hf O.hr h1 h2 O.hsub (thn (run_fn (us := [.ref a, .int i t]) (vs := [.ref a, .int i]) F hr hb .nil hx I (.cons rfl (.cons ⟨t, rfl⟩ .nil)) q) fun r s1 z => ?_)
  obtain ⟨w, H1, I1, rw1, b, rfl, q1⟩ := z
  cases rw1
  exact ⟨.ref b, H1, I1, rfl, q1⟩
end

/-! ### str of an instance with an own __str__; == with what is no instance -/
section
variable {prog : Program} {w : World} {A : Around} {E : Value → Shared → Prop} {s : Shared} {a : Addr}
theorem str_own {R : Value → Shared → Prop} (h : ∀ A', A' = A.in1.in1 → wpAny (model prog w) A' (Builtin.Str.strOf (.ref a)) (fun b s' => (∃ x t, b = .str x t) ∧ R b s') E s) : wpAny (model prog w) A (call (.type "str") [.ref a]) R E s := by
  refine callType_codes (Q₁ := fun obj s₁ => s₁.TypeIs obj "str" ∧ R obj s₁) PySem.F.called_str (PySem.F.typeCall_str_1 _) PySem.F.entry_object_init ?_ fun obj s₁ h₁ => ?_
  · refine codeAny_of_tree ?_
    show wpAny _ A.in1.in1 (do checkBuiltinCall "str.__new__" ⟨[.type "str", .ref a], []⟩; again (.builtin "str.__new__" ⟨[.type "str", .ref a], []⟩)) _ _ s
    refine wpAny_bind (wpAny_of_eq (PySem.F.newCall_str_1 _) (wpAny_pure ⟨plainId_quiet (by decide +kernel) _, codeAny_builtin PySem.F.entry_str_new ?_⟩))
    rw [Around.under_plainId (by decide +kernel) _, str_new_tree]
    refine wpAny_bind (wpAny_pure ?_)
    refine wpAny_bind (wpAny_of_eq isSubtype_str_str ?_)
    refine wpAny_bind (wpAny_mono (h _ rfl) (fun b s' z => wpAny_pure ?_) fun _ _ e => e)
    obtain ⟨⟨x, t, rfl⟩, z⟩ := z
    exact ⟨typeIs_str _ _ _, z⟩
  · exact ⟨h₁.1, PySem.F.args_object_init_2 obj _, object_init_meets PySem.F.called_str.init.lookup PySem.F.called_str.made (by decide) prog w A.in1 _ s₁ ⟨h₁.1, rfl, h₁.2⟩⟩
theorem strOf_own {K : PySem.W.Frag} {x C f : Addr} {ox : Obj} {od : Option Obj} {Q : Value → Shared → Prop} (hu : A.units < cLine) (X : K.In s.heap) (I : PySem.W.InstAt s.heap x ox C od) (hs : PySem.W.findIn K (.ref C) "__str__" = some (some (.ref f))) (hf : PySem.W.isFn K (.ref f) = true)
    (h : wpAny (model prog w) A (call (.ref f) [.ref x]) (fun r s' => (∃ y t, r = .str y t) ∧ Q r s') E s) : wpAny (model prog w) A (Builtin.Str.strOf (.ref x)) Q E s := by
  unfold Builtin.Str.strOf
  repeat (first
    | with_reducible refine wpAny_cRoomFor hu ?_
    | (refine wpAny_bind (m := callSpecial? (.ref x) (Str.ofString "__str__")) (PySem.W.special_fn X I hs (beq_iff_eq.mp hf) (wpAny_mono h (fun r s' hr => by
        obtain ⟨⟨y, t, rfl⟩, hq⟩ := hr
        repeat (first | exact hq | exact wpAny_pure hq | wp_step)) fun _ _ e => e)))
    | wp_step)
end
section
variable {X : Cx} {CX : CXT} {k : Nat} {C f : Addr} {fd : FuncData} {ps : List Str} {sp : Sp} {E : XK}
def rStrO (C : Addr) (sp : Sp) (E : XK) : List V → Hp → VK → Prop := fun xs H Q => ∃ (a dx : Addr) (fs : List (Str × V)), xs = [.ref a] ∧ H a = some (.ins C dx fs) ∧ sp [.ref a] H (fun v H' => ∃ x, v = .str x ∧ Q (.str x) H') E
theorem call_strO (F : FnOk X.prog X.w X.K X.mg X.base CX k f fd ps sp) (hr : Room (k + 3) X.A) (hb : Binds X.K fd ps []) (hx : Passes CX X E) (hs : PySem.W.findIn X.K (.ref C) "__str__" = some (some (.ref f))) (hf : PySem.W.isFn X.K (.ref f) = true) : CallR X (.type "str") (rStrO C sp E) := by
  intro pins s σ H xs us Q I r h
  obtain ⟨a, dx, fs, rfl, ha, q⟩ := h
  obtain ⟨u, rfl, ru⟩ := vals1 r
  obtain rfl : u = Value.ref a := ru
  obtain ⟨o, od, J⟩ := ins_at I ha
  obtain ⟨m, hF⟩ := I.fr
  refine str_own fun A' e => ?_
  subst e
  refine strOf_own hr.in1.in1.units0 (I.ok.mod.kin.keeps hF.keep) J hs hf (thn (run_fnA (us := [.ref a]) (vs := [.ref a]) F (hr.in1.in1.mono (by omega)) (fun e => e.in1.in1) hb hx I (.cons rfl .nil) q) fun r s1 z => ?_)
  obtain ⟨w', H1, I1, rw1, x, rfl, q1⟩ := z
  obtain ⟨t, rfl⟩ := rw1
  exact ⟨⟨x, t, rfl⟩, ⟨x, t, rfl⟩, .str x, H1, I1, ⟨t, rfl⟩, q1⟩
/-- a == y, a an instance of the class, whose __eq__ is its own, y of a built-in kind -/
def rEqX (K : PySem.W.Frag) (C : Addr) (sp : Sp) (E : XK) : R2 := fun x y H Q => ∃ (a dx : Addr) (fs : List (Str × V)) (t : Value), x = .ref a ∧ H a = some (.ins C dx fs) ∧ TyX K H y t ∧ PySem.W.notFirst K C t = true ∧ sp [.ref a, y] H (fun v H' => ∃ b, v = .bl b ∧ Q (.bl b) H') E
theorem op_eqX (K : PySem.W.Frag) (hK : X.K = K) (F : FnOk X.prog X.w X.K X.mg X.base CX k f fd ps sp) (hr : Room k X.A) (hb : Binds X.K fd ps []) (hx : Passes CX X E) (hs : PySem.W.findIn X.K (.ref C) "__eq__" = some (some (.ref f))) (hf : PySem.W.isFn X.K (.ref f) = true) : OpR X (compareOp .Eq) (rEqX K C sp E) := by
  subst hK
  intro pins s σ H x y v u Q I rx ry h
  obtain ⟨a, dx, fs, t, rfl, ha, ty, nf, q⟩ := h
  obtain rfl : v = Value.ref a := rx
  obtain ⟨o, od, J⟩ := ins_at I ha
  obtain ⟨P, Z, hP, _⟩ := kit_of I ry ty
  obtain ⟨m, hF⟩ := I.fr
  show wpAny (model X.prog X.w) X.A (richCompare .Eq (.ref a) u) (EP X pins σ Q) X.xe s
  refine PySem.W.cmp_K (op := .Eq) (tb := t) hr.units0 hF I.ok.mod.kin J (Z.ty _ _ I.kIn hP) nf hs hf (thn (run_fn (us := [.ref a, u]) (vs := [.ref a, y]) F hr hb .nil hx I (.cons rfl (.cons ry .nil)) q) fun r s1 z => ?_)
  obtain ⟨w, H1, I1, rw1, c, rfl, q1⟩ := z
  cases rw1
  exact ⟨.bl c, H1, I1, rfl, q1⟩
end
/-- f'..' of two parts or more, under a name -/
def tJoin (ts : List TE) : TE := fun σ H Q => tJs ts Str.empty σ H fun out H1 => Q (.str out) H1
theorem pe_joinedT {X : Cx} {v1 v2 : Expr} {rest : List Expr} {ts : List TE} {pos : Pos} (h : PJ X (v1 :: v2 :: rest) ts) : PE X (.JoinedStr (v1 :: v2 :: rest) pos) (tJoin ts) := pe_joined h

/-! ### rules for instances whose class is one of several: methods, str, signs, != -/
section
variable {X : Cx} {CX : CXT} {k : Nat} {g : Addr} {fd : FuncData} {ps : List Str} {sp : Sp} {E : XK} {dvs : List V} {ds : List Value} {o e : Expr} {es : List Expr} {m : Str} {ta : TE} {t tk : TA} {apos pos : Pos}
/-- o.m(e, ..), m the def at g whichever class o is of -/
def tMethW (K : PySem.W.Frag) (m : Str) (g : Addr) (sp : Sp) (dvs : List V) (E : XK) (ta : TE) (t : TA) : TE := fun σ H Q => ta σ H fun x H1 => ∃ a C dx fs, x = .ref a ∧ H1 a = some (.ins C dx fs) ∧ Cls K C ∧ Meth K C m g ∧ fs.lookup m = Option.none ∧ t σ H1 fun vs H2 => sp (x :: (vs ++ dvs)) H2 Q E
theorem pe_methW {pl : Sem Bool} (K : PySem.W.Frag) (hK : X.K = K) (he : PE X o ta) (F : FnOk X.prog X.w X.K X.mg X.base CX k g fd ps sp) (hr : Room k X.A) (hb : Binds X.K fd ps ds) (hd : Vals dvs ds) (hx : Passes CX X E) (ha : PA X (e :: es) t)
    (hst : starEach (e :: es) X.env = (false, eval e X.env) :: starEach es X.env := by rfl) (hpl : (backTo pos (starEach es X.env)).any (·.1) = false := by rfl)
    (ht : eval (.Call (.Attribute o m apos) (e :: es) [] pos) X.env = (eval o X.env >>= fun ov => standAt apos.atName >>= fun _ => holding [ov] (getMethod ov m pl) >>= fun z => callWith pos z.1 z.2 (backTo pos (starEach (e :: es) X.env)) (backToKw pos (keywordEach [] X.env))) := by rfl) :
    PE X (.Call (.Attribute o m apos) (e :: es) [] pos) (tMethW K m g sp dvs E ta t) := by
  subst hK
  refine ⟨fun pins s σ H Q I h => PySem.W.methodCall_KW (pl := pl) (thn (he.run pins s σ H _ I h) fun u s1 hu => ?_) ht⟩
  obtain ⟨x, H1, I1, rx, a, C, dx, fs, rfl, ea, c, hm, l, q⟩ := hu
  obtain rfl : u = Value.ref a := rx
  refine getmeth_ok I1 ea c hm l (PySem.W.callWith_K (first := [.ref a]) (h₀ := X.base) I.ok.mod.kin hm.kp (thn (ha.run pos pins s1 σ H1 _ I1 q) fun us s2 z => ?_) hst hpl)
  obtain ⟨vs, H2, I2, r, q2⟩ := z
  exact ⟨I2.kIn, run_fn (us := .ref a :: us) (vs := .ref a :: vs) F hr hb hd hx I2 (.cons rfl r) q2⟩
/-- o.m(k = v, ..) -/
def tMethKW (K : PySem.W.Frag) (m : Str) (g : Addr) (sp : Sp) (gV : List V → List V → List V) (E : XK) (ta : TE) (tk : TA) : TE := fun σ H Q => ta σ H fun x H1 => ∃ a C dx fs, x = .ref a ∧ H1 a = some (.ins C dx fs) ∧ Cls K C ∧ Meth K C m g ∧ fs.lookup m = Option.none ∧ tk σ H1 fun zs H2 => sp (gV [x] zs) H2 Q E
theorem pe_methKW {ks : List Str} {kws : List Keyword} {gK : List Value → List Value → List Value} {gV : List V → List V → List V} {pl : Sem Bool} (K : PySem.W.Frag) (hK : X.K = K) (he : PE X o ta) (F : FnOk X.prog X.w X.K X.mg X.base CX k g fd ps sp) (hr : Room k X.A) (hb : KBinds X.K fd ps ks gK gV) (hx : Passes CX X E) (hkw : PK X kws tk)
    (hall : (backToKw pos (keywordEach kws X.env)).all (·.1.isSome) = true := by rfl) (hks : (backToKw pos (keywordEach kws X.env)).filterMap (·.1) = ks := by rfl) (hpl : ((backTo pos (starEach [] X.env)).any (·.1) || (backToKw pos (keywordEach kws X.env)).any (·.1.isNone)) = false := by rfl)
    (ht : eval (.Call (.Attribute o m apos) [] kws pos) X.env = (eval o X.env >>= fun ov => standAt apos.atName >>= fun _ => holding [ov] (getMethod ov m pl) >>= fun z => callWith pos z.1 z.2 (backTo pos (starEach [] X.env)) (backToKw pos (keywordEach kws X.env))) := by rfl) :
    PE X (.Call (.Attribute o m apos) [] kws pos) (tMethKW K m g sp gV E ta tk) := by
  subst hK
  refine ⟨fun pins s σ H Q I h => PySem.W.methodCall_KW (pl := pl) (thn (he.run pins s σ H _ I h) fun u s1 hu => ?_) ht⟩
  obtain ⟨x, H1, I1, rx, a, C, dx, fs, rfl, ea, c, hm, l, q⟩ := hu
  obtain rfl : u = Value.ref a := rx
  refine getmeth_ok I1 ea c hm l (PySem.W.callWith_KW0 (first := [.ref a]) (h₀ := X.base) I.ok.mod.kin hm.kp hall (thn (hkw.run pos pins s1 σ H1 _ I1 q) fun ws s2 z => ?_) hpl)
  obtain ⟨zs, H2, I2, rz, q2⟩ := z
  refine ⟨I2.kIn, ?_⟩
  rw [hks]
  exact run_fnk (us := [.ref a]) (vs := [.ref a]) F hr hb hx I2 (.cons rfl .nil) rz q2
/-- o.m(e, ..), m told of its arguments as they are passed -/
def tMethR (C : Addr) (m : Str) (sp : Sp) (E : XK) (ta : TE) (t : TA) : TE := fun σ H Q => ta σ H fun x H1 => ∃ a dx fs, x = .ref a ∧ H1 a = some (.ins C dx fs) ∧ fs.lookup m = Option.none ∧ t σ H1 fun vs H2 => sp (x :: vs) H2 Q E
theorem pe_methR {C : Addr} {pl : Sem Bool} (he : PE X o ta) (c : Cls X.K C) (hm : Meth X.K C m g) (F : FnR X.prog X.w X.K X.mg X.base CX k g sp) (hr : Room k X.A) (hx : Passes CX X E) (ha : PA X (e :: es) t)
    (hst : starEach (e :: es) X.env = (false, eval e X.env) :: starEach es X.env := by rfl) (hpl : (backTo pos (starEach es X.env)).any (·.1) = false := by rfl)
    (ht : eval (.Call (.Attribute o m apos) (e :: es) [] pos) X.env = (eval o X.env >>= fun ov => standAt apos.atName >>= fun _ => holding [ov] (getMethod ov m pl) >>= fun z => callWith pos z.1 z.2 (backTo pos (starEach (e :: es) X.env)) (backToKw pos (keywordEach [] X.env))) := by rfl) :
    PE X (.Call (.Attribute o m apos) (e :: es) [] pos) (tMethR C m sp E ta t) := by
  refine ⟨fun pins s σ H Q I h => PySem.W.methodCall_KW (pl := pl) (thn (he.run pins s σ H _ I h) fun u s1 hu => ?_) ht⟩
  obtain ⟨x, H1, I1, rx, a, dx, fs, rfl, ea, l, q⟩ := hu
  obtain rfl : u = Value.ref a := rx
  refine getmeth_ok I1 ea c hm l (PySem.W.callWith_K (first := [.ref a]) (h₀ := X.base) I.ok.mod.kin hm.kp (thn (ha.run pos pins s1 σ H1 _ I1 q) fun us s2 z => ?_) hst hpl)
  obtain ⟨vs, H2, I2, r, q2⟩ := z
  exact ⟨I2.kIn, wpAny_call (run_fnR (us := .ref a :: us) (vs := .ref a :: vs) F hr hx I2 (.cons rfl r) q2)⟩
/-- str(x), x an instance whose __str__ is the def at g -/
def rStrW (K : PySem.W.Frag) (g : Addr) (sp : Sp) (E : XK) : List V → Hp → VK → Prop := fun xs H Q => ∃ (a C dx : Addr) (fs : List (Str × V)), xs = [.ref a] ∧ H a = some (.ins C dx fs) ∧ PySem.W.findIn K (.ref C) "__str__" = some (some (.ref g)) ∧ sp [.ref a] H (fun v H' => ∃ x, v = .str x ∧ Q (.str x) H') E
theorem call_strW (F : FnOk X.prog X.w X.K X.mg X.base CX k g fd ps sp) (hr : Room (k + 3) X.A) (hb : Binds X.K fd ps []) (hx : Passes CX X E) (hf : PySem.W.isFn X.K (.ref g) = true) : CallR X (.type "str") (rStrW X.K g sp E) := by
  intro pins s σ H xs us Q I r h
  obtain ⟨a, C, dx, fs, rfl, ha, hs, q⟩ := h
  exact call_strO F hr hb hx hs hf pins s σ H [.ref a] us Q I r ⟨a, dx, fs, rfl, ha, q⟩
end
/-- what the class says of such a sign with what is of the built-in kind T behind it -/
structure OwnBinT (K : PySem.W.Frag) (C f : Addr) (op : Operator) (T : String) : Prop where
  hc : PySem.W.selfFirst K C = true
  hs : PySem.W.findIn K (.ref C) (PySem.dunder op.info.2) = some (some (.ref f))
  hf : PySem.W.isFn K (.ref f) = true
  hr : PySem.W.findIn K (.ref C) (PySem.dunderR op.info.2) = some Option.none
  h1 : ∃ fo, PySem.W.findIn K (.type T) (PySem.dunder op.info.2) = some fo
  h2 : ∃ ro, PySem.W.findIn K (.type T) (PySem.dunderR op.info.2) = some ro
  hsub : PySem.W.subIn K (.type T) (.ref C) = some false
section
variable {prog : Program} {w : World} {A : Around} {E : Value → Shared → Prop} {s : Shared} {K : PySem.W.Frag} {x C L f : Addr} {h₀ : Heap} {m : Str → Option Value} {ox : Obj} {od : Option Obj} {T : String} {b : Value}
theorem bin1_T {nm' : String} {fo ro : Option Value} {Q : Value → Shared → Prop} (F : PyProof.Rows.Fr h₀ L s.heap m) (X₀ : K.In h₀) (I : PySem.W.InstAt s.heap x ox C od) (hT : PySem.W.Looks (model prog w) s.heap (typeOf b) (.type T)) (hc : PySem.W.selfFirst K C = true)
    (hs : PySem.W.findIn K (.ref C) (PySem.dunder nm') = some (some (.ref f))) (hf : PySem.W.isFn K (.ref f) = true) (hr : PySem.W.findIn K (.ref C) (PySem.dunderR nm') = some Option.none)
    (h1 : PySem.W.findIn K (.type T) (PySem.dunder nm') = some fo) (h2 : PySem.W.findIn K (.type T) (PySem.dunderR nm') = some ro) (hsub : PySem.W.subIn K (.type T) (.ref C) = some false)
    (h : wpAny (model prog w) A (call (.ref f) [.ref x, b]) (PySem.W.CmpBack Q) E s) : wpAny (model prog w) A (binaryOp1 nm' (.ref x) b) (fun r s' => ∃ v, r = some v ∧ Q v s') E s := by
  have X := X₀.keeps F.keep
  obtain ⟨cd, rest, hcd, hmr⟩ := PySem.W.ksp_first hc
  have one := PySem.W.ksp_try X I hs hf h
  obtain ⟨hh, g, d, tt, os⟩ := s
  have L1 : PySem.W.Looks (model prog w) hh (typeOf (.ref x)) (.ref C) := I.type
  have L2 : PySem.W.Looks (model prog w) hh (typeOf b) (.type T) := hT
  have L3 : PySem.W.Looks (model prog w) hh (fillsNumberSlot (.ref C) nm') true := PySem.W.fills_K X hcd hmr hs
  have L4 : PySem.W.Looks (model prog w) hh (fillsNumberSlot (.type T) nm') ((fo.isSome && !isSeqSlot fo) || (ro.isSome && !isSeqSlot ro)) := PySem.W.ksp_fillsT X h1 h2
  have L5 : PySem.W.Looks (model prog w) hh (isSubtype (.type T) (.ref C)) false := PySem.W.looks_subIn X hsub
  have L6 : PySem.W.Looks (model prog w) hh (numberSlotInPython (.ref C) nm') true := PySem.W.ksp_inPy X hs hr (.inl rfl)
  have L7 : PySem.W.Looks (model prog w) hh (numberSlotInPython (.type T) nm') false := PySem.W.Looks.of_pure rfl
  have L8 : PySem.W.Looks (model prog w) hh (typeLookup (.type T) (PySem.dunderR nm')) ro := PySem.W.looks_findIn X h2
  generalize ((fo.isSome && !isSeqSlot fo) || (ro.isSome && !isSeqSlot ro)) = right at L4
  have hne : (Value.ref C == Value.type T) = false := Bool.eq_false_iff.mpr fun q => by cases beq_iff_eq.mp q
  unfold binaryOp1
  refine wpAny_bind (L1.at (wpAny_bind (L2.at (wpAny_bind (L3.at ?_)))))
  simp only [hne, Bool.false_eq_true, if_false]
  cases right with
  | false =>
    ksp_lk
    refine wpAny_mono one (fun r s' hr' => ?_) fun _ _ e => e
    obtain ⟨v, rfl, hq⟩ := hr'
    ksp_lk
    exact ⟨v, rfl, hq⟩
  | true =>
    ksp_lk
    refine wpAny_mono one (fun r s' hr' => ?_) fun _ _ e => e
    obtain ⟨v, rfl, hq⟩ := hr'
    ksp_lk
    exact ⟨v, rfl, hq⟩
theorem bin_T {op : Operator} {fo ro : Option Value} {Q : Value → Shared → Prop} (F : PyProof.Rows.Fr h₀ L s.heap m) (X₀ : K.In h₀) (I : PySem.W.InstAt s.heap x ox C od) (hT : PySem.W.Looks (model prog w) s.heap (typeOf b) (.type T)) (hc : PySem.W.selfFirst K C = true)
    (hs : PySem.W.findIn K (.ref C) (PySem.dunder op.info.2) = some (some (.ref f))) (hf : PySem.W.isFn K (.ref f) = true) (hr : PySem.W.findIn K (.ref C) (PySem.dunderR op.info.2) = some Option.none)
    (h1 : PySem.W.findIn K (.type T) (PySem.dunder op.info.2) = some fo) (h2 : PySem.W.findIn K (.type T) (PySem.dunderR op.info.2) = some ro) (hsub : PySem.W.subIn K (.type T) (.ref C) = some false)
    (h : wpAny (model prog w) A (call (.ref f) [.ref x, b]) (PySem.W.CmpBack Q) E s) : wpAny (model prog w) A (binaryOp op (.ref x) b) Q E s := by
  have one := bin1_T F X₀ I hT hc hs hf hr h1 h2 hsub h
  rcases hi : op.info with ⟨sym, nm'⟩
  rw [hi] at one
  dsimp only at one
  simp only [binaryOp, hi]
  refine wpAny_holding (wpAny_bind (wpAny_mono one (fun r s' hr' => ?_) fun _ _ e => e))
  obtain ⟨v, rfl, hq⟩ := hr'
  exact wpAny_pure hq
/-- x != y where y's class is below x's: y is asked first -/
theorem ne_R {y C' : Addr} {oy : Obj} {od' : Option Obj} {Q : Value → Shared → Prop} (hu : A.units + 1 < cLine) (X : K.In s.heap) (I : PySem.W.InstAt s.heap x ox C od) (J : PySem.W.InstAt s.heap y oy C' od') (hn : PySem.W.subIn K (.ref C') (.ref C) = some true) (ne : (Value.ref C != Value.ref C') = true)
    (hm : PySem.W.mroIn K C' (.type "object") = some true) (he : PySem.W.findIn K (.ref C') "__ne__" = some (some (.builtin "object.__ne__"))) (hs : PySem.W.findIn K (.ref C') "__eq__" = some (some (.ref f))) (hf : PySem.W.isFn K (.ref f) = true)
    (h : wpAny (model prog w) A.in1 (call (.ref f) [.ref y, .ref x]) (fun v s' => ∃ c, v = .bool c ∧ Q (.bool (!c)) s') E s) : wpAny (model prog w) A (richCompare .NotEq (.ref x) (.ref y)) Q E s := by
  have one : wpAny (model prog w) A (tryCompare (.ref y) (cmpInfo .NotEq).2.2 (.ref x)) (fun r s' => ∃ v, r = some v ∧ Q v s') E s := by
    unfold tryCompare
    refine wpAny_bind (ifBound_objNe X J he (wpAny_call (codeAny_call_builtin PySem.F.cmp_object.ne.plain PySem.F.cmpEntry_ne (PySem.W.check_slot PySem.F.cmpKind_ne PySem.F.cmpSplit_ne (J.type.andThen (PySem.W.looks_mroIn X hm)) (PySem.F.cmpArgs_ne _ _)
      (neO_entry (A := A.in1) hu X J hs hf (wpAny_mono h (fun v s' hv => ?_) fun _ _ e => e))))))
    obtain ⟨c, rfl, hq⟩ := hv
    exact ⟨c, rfl, wpAny_pure ⟨_, rfl, hq⟩⟩
  unfold richCompare
  simp only [oneThing_ref]
  refine wpAny_holding (wpAny_bind (wpAny_cRoomFor (Nat.lt_of_succ_lt hu) ?_))
  refine wpAny_bind (I.type.here (wpAny_bind (J.type.here ?_)))
  rw [if_pos ne]
  refine wpAny_bind ((PySem.W.looks_subIn X hn).here ?_)
  simp only [if_true]
  refine wpAny_bind (wpAny_mono one (fun r s' z => ?_) fun _ _ e => e)
  obtain ⟨v, rfl, hq⟩ := z
  exact wpAny_bind (wpAny_rule (wpAny_pure hq))
end
section
variable {X : Cx} {CX : CXT} {k : Nat} {g : Addr} {fd : FuncData} {ps : List Str} {sp : Sp} {E : XK}
/-- x op y, x an instance whose method is the def at g, y of a built-in kind -/
def rBinW (K : PySem.W.Frag) (g : Addr) (op : Operator) (sp : Sp) (E : XK) : R2 := fun x y H Q => ∃ (a C dx : Addr) (fs : List (Str × V)) (T : String), x = .ref a ∧ H a = some (.ins C dx fs) ∧ TyX K H y (.type T) ∧ OwnBinT K C g op T ∧ sp [.ref a, y] H (fun v H' => ∃ b, v = .ref b ∧ Q (.ref b) H') E
theorem op_binW {op : Operator} (K : PySem.W.Frag) (hK : X.K = K) (F : FnOk X.prog X.w X.K X.mg X.base CX k g fd ps sp) (hr : Room k X.A) (hb : Binds X.K fd ps []) (hx : Passes CX X E) : OpR X (binaryOp op) (rBinW K g op sp E) := by
  subst hK
  intro pins s σ H x y v u Q I rx ry h
  obtain ⟨a, C, dx, fs, T, rfl, ha, ty, O, q⟩ := h
  obtain rfl : v = Value.ref a := rx
  obtain ⟨o, od, J⟩ := ins_at I ha
  obtain ⟨P, Z, hP, _⟩ := kit_of I ry ty
  obtain ⟨m, hF⟩ := I.fr
  obtain ⟨fo, h1⟩ := O.h1
  obtain ⟨ro, h2⟩ := O.h2
  refine bin_T hF I.ok.mod.kin J (Z.ty _ _ I.kIn hP) O.hc O.hs O.hf O.hr h1 h2 O.hsub (thn (run_fn (us := [.ref a, u]) (vs := [.ref a, y]) F hr hb .nil hx I (.cons rfl (.cons ry .nil)) q) fun r s1 z => ?_)
  obtain ⟨w, H1, I1, rw1, b, rfl, q1⟩ := z
  cases rw1
  exact ⟨.ref b, H1, I1, rfl, q1⟩
/-- x op= i -/
def rIpW (K : PySem.W.Frag) (g : Addr) (op : Operator) (sp : Sp) (E : XK) : R2 := fun x y H Q => ∃ (a C dx : Addr) (fs : List (Str × V)) (i : Int), x = .ref a ∧ y = .int i ∧ H a = some (.ins C dx fs) ∧ OwnBin K C g op ∧ mroNone K C (PySem.dunderI op.info.2) ∧ sp [.ref a, .int i] H (fun v H' => ∃ b, v = .ref b ∧ Q (.ref b) H') E
theorem ip_ownW {op : Operator} (K : PySem.W.Frag) (hK : X.K = K) (F : FnOk X.prog X.w X.K X.mg X.base CX k g fd ps sp) (hr : Room k X.A) (hb : Binds X.K fd ps []) (hx : Passes CX X E) : PIp X op (rIpW K g op sp E) := by
  subst hK
  intro pins s σ H x y v u Q I rx ry h
  obtain ⟨a, C, dx, fs, i, rfl, rfl, ha, O, hm, q⟩ := h
  exact ip_own O hm F hr hb hx pins s σ H (.ref a) (.int i) v u Q I rx ry ⟨a, dx, fs, i, rfl, rfl, ha, q⟩
/-- x != y of instances, their == the def at g -/
def rNeW (K : PySem.W.Frag) (g : Addr) (sp : Sp) (E : XK) : R2 := fun x y H Q => ∃ (a b C C' dx dy : Addr) (fs gs : List (Str × V)), x = .ref a ∧ y = .ref b ∧ H a = some (.ins C dx fs) ∧ H b = some (.ins C' dy gs) ∧
  ((PySem.W.notFirst K C (.ref C') = true ∧ PySem.W.mroIn K C (.type "object") = some true ∧ PySem.W.findIn K (.ref C) "__ne__" = some (some (.builtin "object.__ne__")) ∧ PySem.W.findIn K (.ref C) "__eq__" = some (some (.ref g)) ∧ sp [.ref a, .ref b] H (fun v H' => ∃ c, v = .bl c ∧ Q (.bl (!c)) H') E) ∨
   (PySem.W.subIn K (.ref C') (.ref C) = some true ∧ (Value.ref C != Value.ref C') = true ∧ PySem.W.mroIn K C' (.type "object") = some true ∧ PySem.W.findIn K (.ref C') "__ne__" = some (some (.builtin "object.__ne__")) ∧ PySem.W.findIn K (.ref C') "__eq__" = some (some (.ref g)) ∧ sp [.ref b, .ref a] H (fun v H' => ∃ c, v = .bl c ∧ Q (.bl (!c)) H') E))
theorem op_neW (K : PySem.W.Frag) (hK : X.K = K) (F : FnOk X.prog X.w X.K X.mg X.base CX k g fd ps sp) (hr : Room (k + 1) X.A) (hb : Binds X.K fd ps []) (hx : Passes CX X E) (hf : PySem.W.isFn X.K (.ref g) = true) : OpR X (compareOp .NotEq) (rNeW K g sp E) := by
  subst hK
  intro pins s σ H x y v u Q I rx ry h
  obtain ⟨a, b, C, C', dx, dy, fs, gs, rfl, rfl, ha, hb2, h⟩ := h
  obtain rfl : v = Value.ref a := rx
  obtain rfl : u = Value.ref b := ry
  obtain ⟨o, od, J⟩ := ins_at I ha
  obtain ⟨o2, od2, J2⟩ := ins_at I hb2
  obtain ⟨m, hF⟩ := I.fr
  have hu := hr.units
  show wpAny (model X.prog X.w) X.A (richCompare .NotEq (.ref a) (.ref b)) (EP X pins σ Q) X.xe s
  rcases h with ⟨nf, hm, he, hs, q⟩ | ⟨sb, ne, hm, he, hs, q⟩
  · refine ne_own (tb := .ref C') (by omega) hF I.ok.mod.kin J J2.type nf hm he hs hf (thn (run_fn1 (us := [.ref a, .ref b]) (vs := [.ref a, .ref b]) F hr hb hx I (.cons rfl (.cons rfl .nil)) q) fun r s1 z => ?_)
    obtain ⟨w, H1, I1, rw1, c, rfl, q1⟩ := z
    cases rw1
    exact ⟨c, rfl, .bl (!c), H1, I1, rfl, q1⟩
  · refine ne_R (by omega) I.kIn J J2 sb ne hm he hs hf (thn (run_fn1 (us := [.ref b, .ref a]) (vs := [.ref b, .ref a]) F hr hb hx I (.cons rfl (.cons rfl .nil)) q) fun r s1 z => ?_)
    obtain ⟨w, H1, I1, rw1, c, rfl, q1⟩ := z
    cases rw1
    exact ⟨c, rfl, .bl (!c), H1, I1, rfl, q1⟩
end

/-! ### an error that is caught and kept -/
/-- at a: an exception of the class cls whose own dict is d -/
def XO (a : Addr) (cls : Value) (d : Option Addr) : HO := .ext fun h => ∃ (o : Obj) (vs : Array Value), h.get? a = some o ∧ Zc cls d o ∧ o.data = .fields vs
theorem XO_at {P : Program} {w : World} {H : Hp} {h : Heap} {a : Addr} {cls : Value} {d : Option Addr} (hok : HOk P w H h) (e : H a = some (XO a cls d)) : ∃ (o : Obj) (vs : Array Value), h.get? a = some o ∧ Zc cls d o ∧ o.data = .fields vs := by
  have x : ObjOk P w H h a (.ext fun h => ∃ (o : Obj) (vs : Array Value), h.get? a = some o ∧ Zc cls d o ∧ o.data = .fields vs) := hok a _ e
  exact x.1
theorem XO_ne {a : Addr} {cls : Value} {d : Option Addr} {u : HO} (h : ∀ φ, u ≠ .ext φ) : XO a cls d ≠ u := fun z => h _ z.symm
/-- an object that stands in the heap since the entry is taken up -/
theorem track {X : Cx} {pins : List (Addr × Obj)} {σ : L2.St} {H : Hp} {s : Shared} {a : Addr} {cls : Value} {d : Option Addr} {o : Obj} {vs : Array Value} (I : Inv X pins σ H s) (ha : s.heap.get? a = some o) (hz : Zc cls d o) (hd : o.data = .fields vs) (na : H a = Option.none)
    (n0 : X.s_0.heap.get? a = Option.none) (np : ∀ p ∈ X.pn ++ pins, p.1 ≠ a) (nL : a ≠ X.env.locals) : Inv X pins σ (upd H a (XO a cls d)) s := by
  have other : ∀ b u, H b = some u → b ≠ a := fun b u e => ne_of_none e na
  have cell : ∀ x c, X.env.cells.lookup x = some c → c ≠ a := fun x c e z => by
    obtain ⟨v, oc, q1, q2⟩ := I.cell x c e
    rw [z, ha] at q1
    cases q1
    rw [hd] at q2
    cases q2
  have start0 : ∀ b u, X.s_0.heap.get? b = some u → b ≠ a := fun b u e z => by
    rw [z, n0] at e
    cases e
  have B := I.base
  exact { ok := I.ok, os := I.os, bare := I.bare, loc := I.loc, cell := I.cell, len := I.len
          base := { keep := B.keep, slot := B.slot, there := B.there
                    free := fun b u e1 e2 e3 => by rw [upd_ne (start0 b u e1)]; exact B.free b u e1 e2 e3
                    tups := fun b xs e => by rw [upd_ne (other b _ (B.tups b xs e))]; exact B.tups b xs e
                    frzs := fun b ob u e => by rw [upd_ne (other b _ (B.frzs b ob u e))]; exact B.frzs b ob u e
                    tbls := fun b ps e => by
                      obtain ⟨more, q⟩ := B.tbls b ps e
                      exact ⟨more, by rw [upd_ne (other b _ q)]; exact q⟩ }
          free := by rw [upd_ne (Ne.symm nL)]; exact I.free
          freeC := fun x c e => by rw [upd_ne (cell x c e)]; exact I.freeC x c e
          pin := fun p hp => by
            obtain ⟨q1, q2, q3⟩ := I.pin p hp
            exact ⟨q1, by rw [upd_ne (np p hp)]; exact q2, q3⟩
          hok := fun b u e => by
            by_cases hb : b = a
            · rw [hb, upd_same] at e
              cases e
              rw [hb]
              exact ⟨⟨o, vs, ha, hz, hd⟩, ⟨o, ha⟩, fun h1 h2 ⟨o1, v1, q1, q2⟩ k => ⟨o1, v1, k _ q1, q2⟩⟩
            · rw [upd_ne hb] at e
              exact (I.hok b u e).stay (fun _ _ _ q => q) (fun c q => by rw [upd_ne (other c _ q)]; exact q) fun c xs q => by rw [upd_ne (other c _ q)]; exact q }
/-- what the clause «except x as n» wishes, the error kept behind it -/
def wKeep (K : PySem.W.Frag) (c : Value) (i : Nat) (ts : Addr → Value → Option Addr → TS) (D : Ends) : WX := fun cls d σ H =>
  PySem.W.exmOne K cls c = some true ∧ ∀ a, H a = Option.none → ts a cls d { nx := fun σ1 H1 => H1 a = Option.none → D.nx (σ1.set i Option.none) (upd H1 a (XO a cls d)), rt := fun _ _ => False } (σ.set i (some (.ref a))) H
section
variable {X : Cx} {x n : Str} {c : Value} {i : Nat} {body suite : List Stmt} {b₀ : Stmt} {np pos pos' : Pos} {tb : WX → TS} {ts : Addr → Value → Option Addr → TS}
theorem ps_try_keep (hs : X.stack = X.env :: X.outer) (hf : X.env.frame = some X.env.locals) (hex : X.ex = []) (hN : X.N.Nodup) (hi : X.N[i]? = some n) (hln : X.env.kindOf n = some .local) (hc : Names X x c)
    (hb : ∀ (W : WX) (pn : List (Addr × Obj)) (xe : Value → Shared → Prop), Takes (X.tr pn xe) W → PassesOwn (model X.prog X.w) X.A X.env xe → PSs (X.tr pn xe) body (tb W))
    (hsu : ∀ (a : Addr) (oe : Obj) (cls : Value) (d : Option Addr) (pn : List (Addr × Obj)), Zc cls d oe → (∃ vs, oe.data = .fields vs) → PSs (X.suite a ((a, oe) :: pn)) (b₀ :: suite) (ts a cls d)) :
    PS X (.Try body [.ExceptHandler (some (.Name x np)) (some n) (b₀ :: suite) pos'] [] [] pos) (fun D σ H => tb (wKeep X.K c i ts D) D σ H) := by
  refine ⟨fun pins s σ H D I h => wpAny_Try_except ?_⟩
  have ok := I.ok
  have frames : X.A.frames = some (X.env :: X.outer) := ok.frames.trans (by rw [hs])
  have R := (hb (wKeep X.K c i ts D) (X.pn ++ pins)
    (fun e q1 => wpAny (model X.prog X.w) X.A (noteFrame e X.env) (fun _ q2 => wpAny (model X.prog X.w) X.A (setFlight e none) (fun _ q3 => wpAny (model X.prog X.w) X.A (handleBy e X.env [.ExceptHandler (some (.Name x np)) (some n) (b₀ :: suite) pos']) (SP X pins D) X.xe q3) X.xe q2) X.xe q1)
    (fun u q xx => ?caught) PassesOwn.looking).run [] s σ H D (I.toTry _) h
  case caught =>
    obtain ⟨a, B, t, ps1, σ1, H1, cls, d, rfl, J0, ground, upto, sky, na, os, ag, yes, rest⟩ := xx
    have J : Inv X pins σ1 H1 t := J0.ofTry ok
    show wpAny (model X.prog X.w) X.A (noteFrame (.ref a) X.env) _ _ _
    refine Sky.land Zc.steady frames hf (hs ▸ sky) fun hp fl upto2 => ?_
    have J1 : Inv X pins σ1 H1 { q with heap := hp } := J.landed ground fl.1 (upto.trans upto2) os ag
    obtain ⟨o1, v1, at1, z1, d1⟩ := fl.there
    have nfr : a ∉ frs (X.env :: X.outer) := fun hm => by
      obtain ⟨_, o2, e2, nd⟩ := fl.2.2.1.mem hm
      rw [at1] at e2
      cases e2
      exact nd _ d1
    have nL : a ≠ X.env.locals := fun z => nfr (List.mem_filterMap.mpr ⟨X.env, List.mem_cons_self, by rw [hf, z]⟩)
    have nF : a ∉ X.fs := fun hm => by
      obtain ⟨e, he, z⟩ := List.mem_filterMap.mp hm
      exact nfr (List.mem_filterMap.mpr ⟨e, List.mem_cons_of_mem _ he, z⟩)
    -- it did not stand there
    have nt : t.heap.get? a = Option.none := by
      match z : t.heap.get? a with
      | Option.none => rfl
      | some o2 =>
        have z2 := ground a o2 z (by rw [hs]; exact nfr)
        rw [fl.2.1] at z2
        cases z2
    have n0 : X.s_0.heap.get? a = Option.none := by
      match z : X.s_0.heap.get? a with
      | Option.none => rfl
      | some o2 =>
        obtain ⟨o3, z3⟩ := J.base.there a o2 z (by rw [hex]; exact List.not_mem_nil)
        rw [nt] at z3
        cases z3
    have npn : ∀ p ∈ X.pn ++ pins, p.1 ≠ a := fun p hp z => by
      have z2 := (J.pin p hp).1
      rw [z, nt] at z2
      cases z2
    have S1 := J1.suite at1 d1 na nL nF
    refine wpAny_handleBy_cons (codeAny_handlers_test ?_) (by intro z; cases z)
    have kind : PySem.W.Looks (model X.prog X.w) hp (typeOf (.ref a)) cls := fun A Q E s1 k z => wpAny_typeOf_ref (k _ _ at1) (by rw [z1.1]; exact z)
    have meets := PySem.W.exm_one (M := model X.prog X.w) J1.kIn kind yes
    have look : ∀ {Q : Value → Shared → Prop} {E : Value → Shared → Prop}, Q c { q with heap := hp } → wpAny (model X.prog X.w) (X.A.mark (some (.ref a))) (eval (.Name x np) X.env) Q E { q with heap := hp } := fun {Q E} z => by
      obtain ⟨g1, g2, g3⟩ := hc
      rcases g3 with g3 | ⟨g3, g4, g5⟩
      · exact ld_glob (X := X.suite a ((a, o1) :: (X.pn ++ pins))) S1 g1 g3 z g2
      · exact ld_blt (X := X.suite a ((a, o1) :: (X.pn ++ pins))) S1 g1 g3 g4 z g5 g2
    refine look (meets.here (codeAny_handlers_suite_as (HandSPX.lands_againZ fl fun hp2 fl2 upto3 => ?_)))
    have J2 : Inv X pins σ1 H1 { q with heap := hp2 } := J.landed ground fl2.1 ((upto.trans upto2).trans upto3) os ag
    obtain ⟨o2, v2, at2, z2, d2⟩ := fl2.there
    refine store_ok (X := X.suite a ((a, o2) :: (X.pn ++ pins))) (v := .ref a) (J2.suite at2 d2 na nL nF) hN hi (.inl hln) rfl (fun s5 S5 => ?_) (.inr hln)
    refine wpAny_mono ((hsu a o2 cls d (X.pn ++ pins) z2 ⟨_, d2⟩).run [] s5 _ H1 _ S5 (rest a na)) (fun f s6 hsp => ?_) (fun _ _ z => z.elim)
    match f, hsp with
    | .next, ⟨σ6, H6, S6, q6⟩ =>
      obtain ⟨p1, p2, _⟩ := S6.pin (a, o2) (List.mem_append_left _ List.mem_cons_self)
      have J6 := track (S6.unsuite ok) p1 z2 d2 p2 n0 npn nL
      exact gone_ok J6 hN hi hln fun s7 J7 => ⟨_, _, J7, q6 p2⟩
    | .ret u, ⟨_, _, _, _, _, z⟩ => exact z.elim
    | .brk, ⟨_, _, _, z⟩ => exact z.elim
    | .cont, ⟨_, _, _, z⟩ => exact z.elim
  refine wpAny_mono R (fun f s1 hsp => ?_) fun e s1 he => he
  match f, hsp with
  | .next, ⟨σ1, H1, J, q⟩ => exact wpAny_execs_nil ⟨σ1, H1, J.ofTry ok, q⟩
  | .ret u, ⟨v, σ1, H1, J, r, q⟩ => exact ⟨v, σ1, H1, J.ofTry ok, r, q⟩
  | .brk, ⟨σ1, H1, J, q⟩ => exact ⟨σ1, H1, J.ofTry ok, q⟩
  | .cont, ⟨σ1, H1, J, q⟩ => exact ⟨σ1, H1, J.ofTry ok, q⟩
end
/-- what the written part says of an error's class C -/
structure ErrC (K : PySem.W.Frag) (C : Addr) : Prop where
  cl : (PySem.W.clsIn K C).isSome = true
  ga : PySem.W.findIn K (.ref C) "__getattribute__" = some (some (.builtin "BaseException.__getattribute__"))
  gg : PySem.W.findIn K (.ref C) "__getattr__" = some Option.none
  ex : PySem.W.subIn K (.ref C) (.type "BaseException") = some true
  hd : PySem.W.hasDictIn K C = true
  ha : PySem.W.findIn K (.ref C) "__class__" = some (some (.builtin "object.__class__"))
  hn : PySem.W.specialIn K (.builtin "object.__class__") "__get__" = some (some (.builtin "getset_descriptor.__get__"))
  ht : PySem.W.takesIn K (.builtin "object.__class__") = some true
  hm : PySem.W.mroIn K C (.type "object") = some true
theorem XO_inst {X : Cx} {pins : List (Addr × Obj)} {σ : L2.St} {H : Hp} {s : Shared} {a C d : Addr} {fs : List (Str × V)} (I : Inv X pins σ H s) (e : H a = some (XO a (.ref C) (some d))) (ed : H d = some (.xd fs)) :
    ∃ (o od : Obj), PySem.W.InstAt s.heap a o C (some od) ∧ ∃ mA : Str → Option Value, (∀ f, RelO (fs.lookup f) (mA f)) ∧ ∀ f : Str, PySem.W.lookIn f od = some (mA f) := by
  obtain ⟨o, vs, h1, h2, h3⟩ := XO_at I.hok e
  obtain ⟨mA, hns, hr⟩ := (show ObjOk X.prog X.w H s.heap d (.xd fs) from I.hok d _ ed)
  obtain ⟨od, ho, hl⟩ := lookIn_ns hns
  exact ⟨o, od, ⟨h1, h2.1, by unfold PySem.W.notCls; rw [h3] <;> rfl, by rw [h2.2]; exact ho⟩, mA, hr, hl⟩
/-- isinstance(e, c), e kept -/
def rIsK (K : PySem.W.Frag) : List V → Hp → VK → Prop := fun xs H Q => ∃ (a C d : Addr) (fs : List (Str × V)) (c : V) (cv : Value) (b : Bool), xs = [.ref a, c] ∧ H a = some (XO a (.ref C) (some d)) ∧ H d = some (.xd fs) ∧ ErrC K C ∧ (∀ u, RelV c u → u = cv) ∧ PySem.W.kitOne K (.ref C) cv = some b ∧ Q (.bl b) H
theorem call_isK {X : Cx} : CallR X (.builtin "isinstance") (rIsK X.K) := by
  intro pins s σ H xs us Q I r h
  obtain ⟨a, C, d, fs, c, cv, b, rfl, e, ed, T, hc, k, q⟩ := h
  obtain ⟨u1, u2, rfl, r1, r2⟩ := vals2 r
  obtain rfl : u1 = Value.ref a := r1
  have e2 := hc _ r2
  subst e2
  obtain ⟨o, od, J, _⟩ := XO_inst I e ed
  exact PySem.W.kia_one (PySem.W.kitx_exc T.cl T.ga T.gg T.ex T.ha T.hn T.ht T.hm) I.kIn J k (fun z => nomatch z) fun tk => ⟨.bl b, H, I.kept (t' := tk) fun _ _ z => z, rfl, q⟩
/-- e.f, e kept -/
def tFldK (K : PySem.W.Frag) (f : Str) (te : TE) : TE := fun σ H Q => te σ H fun x H1 => ∃ (a C d : Addr) (fs : List (Str × V)) (v : V), x = .ref a ∧ H1 a = some (XO a (.ref C) (some d)) ∧ H1 d = some (.xd fs) ∧ ErrC K C ∧ PySem.W.findIn K (.ref C) f = some Option.none ∧ fs.lookup f = some v ∧ Q v H1
theorem pe_fldK {X : Cx} {e : Expr} {te : TE} {f : Str} {pos : Pos} (he : PE X e te) (hb : attributeBase e f X.env (eval e X.env) = eval e X.env := by rfl) : PE X (.Attribute e f pos) (tFldK X.K f te) := by
  refine ⟨fun pins s σ H Q I h => attr_of hb (thn (he.run pins s σ H _ I h) fun u s1 hh => ?_)⟩
  obtain ⟨y, H1, I1, ry, a, C, d, fs, v, rfl, ea, ed, T, no, l, q⟩ := hh
  obtain rfl : u = Value.ref a := ry
  obtain ⟨o, od, J, mA, hr, hl⟩ := XO_inst I1 ea ed
  obtain ⟨u, hu, ru⟩ := RelO.some_of (v := v) (o := mA f) (by rw [← l]; exact hr f)
  exact HandSPX.exc_get I1.kIn J T.ga T.gg T.ex (PySem.W.findObj_own T.hd no rfl (by rw [hl, hu])) (handed_of ru) ⟨v, H1, I1.tok _, ru, q⟩

/-! ### {**a, k: v} -/
section
variable {prog : Program} {w : World} {K : Type} [DecidableEq K] {knd : KeyKind prog w K} {A : Around} {E : Value → Shared → Prop} {s : Shared}
theorem put_of {d : Addr} {kvs : List (K × Value)} {k : K} {key v : Value} {Q : Unit → Shared → Prop} (hkey : knd.is k key = true) (hm : s.heap.DictOf knd d kvs) (hsz : kvs.length ≤ sizeLine)
    (hQ : ∀ h', h'.DictOf knd d (stored kvs k v) → Heap.SameBut d s.heap h' → Q () { s with heap := h' }) : wpAny (model prog w) A (dictPut d (knd.hash k) key v) Q E s := by
  obtain ⟨o, es, ep, ho, hc, hd, hk, hp, hn⟩ := hm
  have hes : es.size ≤ sizeLine := by
    have e1 := hp.length
    rw [Array.length_toList] at e1
    omega
  have ix : (es.findIdx? fun e => knd.is k e.key) = kvs.findIdx? fun kv => decide (kv.1 = k) := by
    rw [← hp.findIdx k]; obtain ⟨l⟩ := es; simp
  unfold dictPut
  refine wpAny_bind (wpAny_dictFind_of hkey ho hd hk ?_)
  cases hi : es.findIdx? fun e => knd.is k e.key with
  | some i =>
    have hl : (es.toList.findIdx? fun e => knd.is k e.key) = some i := by rw [← hi]; obtain ⟨l⟩ := es; simp
    refine wpAny_updateDict ho hd (hQ _ ⟨_, _, ep, Heap.get?_update_self _ ho (Obj.isFreed_of_dict (Obj.data_mapDict hd _)), hc.mapDict _, Obj.data_mapDict hd _, hk.modify _ _, ?_, ?_⟩ (Heap.SameBut.update ..))
    · rw [stored, if_pos (any_of_findIdx_some (ix ▸ hi))]
      have z := hp.modify hn hl v
      rw [Array.toList_modify]
      exact z
    · rw [stored, if_pos (any_of_findIdx_some (ix ▸ hi)), keys_map_store]
      exact hn
  | none =>
    have no : k ∉ kvs.map (·.1) := not_mem_of_findIdx_none (ix ▸ hi)
    have na : ¬ (kvs.any fun kv => decide (kv.1 = k)) = true := fun z => by
      obtain ⟨kv, hkv, he⟩ := List.any_eq_true.mp z
      exact no (List.mem_map.mpr ⟨kv, hkv, of_decide_eq_true he⟩)
    refine wpAny_updateDictKeys (hz := hes) ho hd (hQ _ ⟨_, _, ep + 1, Heap.get?_update_self _ ho (Obj.isFreed_of_dict (Obj.data_mapDictKeys hd _)), hc.mapDictKeys _, Obj.data_mapDictKeys hd _, hk.push hkey _, ?_, ?_⟩ (Heap.SameBut.update ..))
    · rw [stored, if_neg na, Array.toList_push]
      exact hp.append hkey (knd.hash k) v
    · rw [stored, if_neg na, List.map_append, List.nodup_append]
      refine ⟨hn, by simp, fun a ha b hb => ?_⟩
      simp only [List.map_cons, List.map_nil, List.mem_singleton] at hb
      subst hb
      exact fun e => no (e ▸ ha)
theorem merge_map {d a : Addr} {kvs more : List (K × Value)} {Q : Unit → Shared → Prop} (nr : ∀ k b, knd.is k (.ref b) = false) (hda : d ≠ a) (haS : (a == sysModules) = false) (hd : s.heap.DictOf knd d kvs) (ha : s.heap.DictOf knd a more) (hsz : kvs.length + more.length ≤ sizeLine)
    (hQ : ∀ h', h'.DictOf knd d (merged kvs more) → h'.DictOf knd a more → Heap.SameBut d s.heap h' → Q () { s with heap := h' }) : wpAny (model prog w) A (mergeMapping d (.ref a) false) Q E s := by
  obtain ⟨od, esd, epd, hod, hcd, hdd, hkd, hpd, hnd⟩ := id hd
  obtain ⟨oa, esa, epa, hoa, hca, hda', hka, hpa, hna⟩ := id ha
  have hlen : more.length = esa.size := by rw [← hpa.length, Array.length_toList]
  unfold mergeMapping
  refine wpAny_bind (wpAny_isInstance ha.typeIs isSubtype_dict_dict ?_)
  dsimp only
  rw [if_pos rfl]
  refine wpAny_bind (wpAny_specialOf ha.typeIs F.slot_dict_iter.lookup ?_)
  rw [show ((some (Value.builtin "dict.__iter__") : Option Value) == some (.builtin "dict.__iter__")) = true from beq_self_eq_true _]
  refine wpAny_bind (wpAny_pure ?_)
  dsimp only
  rw [if_neg (by rw [haS]; exact Bool.false_ne_true)]
  refine wpAny_bind (wpAny_dictEntries hod hdd ?_)
  have loop : wpAny (model prog w) A (do
      let l ← dictEntries a
      let epoch ← dictEpoch a
      forIn (List.range l.size) PUnit.unit fun i (_ : PUnit) => (do
          let l' ← dictEntries a
          match l'[i]? with
            | some e => do
              holding [e.key, e.val] (dictPut d e.hash e.key e.val)
              let ep' ← dictEpoch a
              if (ep' != epoch) = true then do
                  (unsupported "dict.changed-during-merge" : Sem PUnit)
                  pure (ForInStep.yield PUnit.unit)
                else pure (ForInStep.yield PUnit.unit)
            | _ => do
              (unsupported "dict.changed-during-merge" : Sem PUnit)
              pure (ForInStep.yield PUnit.unit) : Sem (ForInStep PUnit))
      pure ()) Q E s := by
    refine wpAny_bind (wpAny_dictEntries hoa hda' ?_)
    refine wpAny_bind (wpAny_dictEpoch hoa hda' ?_)
    refine wpAny_bind (wpAny_forIn_list _
      (fun rest _ s' => ∃ h' i, s' = { s with heap := h' } ∧ rest = (List.range esa.size).drop i ∧ i ≤ esa.size ∧ h'.DictOf knd d (merged kvs (more.take i)) ∧ h'.get? a = some oa ∧ Heap.SameBut d s.heap h')
      _ ?_ ?_ _ _ ⟨s.heap, 0, rfl, by simp, Nat.zero_le _, by simpa [merged] using hd, hoa, Heap.SameBut.refl _ _⟩)
    · rintro x rest b s' ⟨h', i, rfl, hr, hi, hd', hoa', hs'⟩
      have hlt : i < esa.size := by
        rcases Nat.lt_or_ge i esa.size with z | z
        · exact z
        · rw [List.drop_of_length_le (by rw [List.length_range]; exact z)] at hr
          cases hr
      obtain ⟨rfl, hrest⟩ : x = i ∧ rest = (List.range esa.size).drop (i + 1) := by
        rw [List.drop_eq_getElem_cons (by rw [List.length_range]; exact hlt), List.getElem_range] at hr
        injection hr with h1 h2
        exact ⟨h1, h2⟩
      refine wpAny_bind (wpAny_dictEntries hoa' hda' ?_)
      rw [Array.getElem?_eq_getElem hlt]
      obtain ⟨⟨k, v⟩, hkv⟩ : ∃ kv, more[x]? = some kv := ⟨more[x]'(by rw [hlen]; exact hlt), List.getElem?_eq_getElem _⟩
      obtain ⟨hkey, hval⟩ := hpa.get? (e := esa[x]) (by simp [hlt]) hkv
      obtain ⟨k', hkey', hhash⟩ := hka esa[x] (Array.getElem_mem hlt)
      obtain rfl : k' = k := knd.inj _ _ _ hkey' hkey
      dsimp only
      rw [hhash, hval]
      have hmx : (merged kvs (more.take x)).length ≤ sizeLine := by
        have e1 := merged_length_le kvs (more.take x)
        have e2 : (more.take x).length ≤ more.length := by rw [List.length_take]; omega
        omega
      refine wpAny_bind (wpAny_holding (put_of hkey hd' hmx fun h'' hd'' hs'' => ?_))
      have hoa'' : h''.get? a = some oa := (hs''.2 a (Ne.symm hda)).trans hoa'
      refine wpAny_bind (wpAny_dictEpoch hoa'' hda' ?_)
      rw [if_neg (by simp)]
      exact wpAny_pure ⟨h'', x + 1, rfl, hrest, hlt, by rw [merged_take_succ kvs more x (k', v) hkv]; exact hd'', hoa'', hs'.trans hs''⟩
    · rintro b s' ⟨h', i, rfl, hr, hi, hd', hoa', hs'⟩
      have hin : i = esa.size := by
        rcases Nat.lt_or_ge i esa.size with z | z
        · rw [List.drop_eq_getElem_cons (by rw [List.length_range]; exact z)] at hr
          cases hr
        · exact Nat.le_antisymm hi z
      refine wpAny_pure (hQ h' ?_ ⟨oa, esa, epa, hoa', hca, hda', hka, hpa, hna⟩ hs')
      rw [hin, ← hlen, List.take_length] at hd'
      exact hd'
  split
  · refine wpAny_bind (wpAny_dictEntries hoa hda' ?_)
    refine wpAny_bind (PySem.MeetsSeq2.wpAny_forIn_array _ (fun rest _ s' => s' = s ∧ ∀ e ∈ rest, e ∈ esa) _ ?_ ?_ _ _ ⟨rfl, fun e he => Array.mem_toList_iff.mp he⟩)
    · rintro e rest b s' ⟨rfl, hr⟩
      obtain ⟨k, hk, _⟩ := hka e (hr e List.mem_cons_self)
      have nk : ∀ z, e.key ≠ .ref z := fun z q => by rw [q, nr] at hk; cases hk
      split
      · rename_i z q
        exact absurd q (nk z)
      · exact wpAny_pure ⟨rfl, fun e he => hr e (List.mem_cons_of_mem _ he)⟩
    · rintro b s' ⟨rfl, _⟩
      exact loop
  · exact loop
end
section
variable {prog : Program} {w : World} {K : Type} [DecidableEq K] {knd : KeyKind prog w K} {A : Around} {E : Value → Shared → Prop} {s : Shared}
/-- {**va, tk: tv}: a new dict gets what va has; the pair is made into a dict of its own, which is then laid over it -/
theorem display_un {va tk tv : Sem Value} {Q : Value → Shared → Prop} (nr : ∀ k b, knd.is k (.ref b) = false)
    (h : wpAny (model prog w) A va (fun m s1 => ∃ (a : Addr) (kvs : List (K × Value)), m = .ref a ∧ s.heap.objs.size ≠ a ∧ (a == sysModules) = false ∧ s1.heap.DictOf knd s.heap.objs.size [] ∧ s1.heap.DictOf knd a kvs ∧ kvs.length < sizeLine ∧
      ∀ h1, h1.DictOf knd s.heap.objs.size kvs → Heap.SameBut s.heap.objs.size s1.heap h1 →
        wpAny (model prog w) A (evalPairs [(tk, tv)]) (fun vs s2 => ∃ (k : K) (v : Value) (kvs2 : List (K × Value)), Carries knd vs [(k, v)] ∧ s2.heap.DictOf knd h1.objs.size [] ∧ s2.heap.DictOf knd s.heap.objs.size kvs2 ∧ kvs2.length < sizeLine ∧ s.heap.objs.size ≠ h1.objs.size ∧ (h1.objs.size == sysModules) = false ∧
          ∀ h2 h3, h2.DictOf knd h1.objs.size [(k, v)] → Heap.SameBut h1.objs.size s2.heap h2 → h3.DictOf knd s.heap.objs.size (stored kvs2 k v) → h3.DictOf knd h1.objs.size [(k, v)] → Heap.SameBut s.heap.objs.size h2 h3 → Q (.ref s.heap.objs.size) { s2 with heap := h3, toks := s2.toks + vs.length }) E
          { s1 with heap := h1.push { cls := .type "dict", data := .dict #[] } }) E
      { s with heap := s.heap.push { cls := .type "dict", data := .dict #[] } }) : wpAny (model prog w) A (dictDisplay [(none, va), (some tk, tv)]) Q E s := by
  unfold dictDisplay
  simp only [List.forIn_cons, List.forIn_nil, pure_bind, bind_assoc, List.isEmpty_nil, if_true, List.nil_append, List.length_cons, List.length_nil]
  refine wpAny_bind (wpAny_alloc (wpAny_bind (wpAny_holding (wpAny_mono h (fun m s1 z => ?_) fun _ _ e => e))))
  obtain ⟨a, kvs, rfl, na, nS, hd, ha, hl, z⟩ := z
  refine wpAny_bind (wpAny_onRaise (wpAny_tryCatch (wpAny_onRaise (wpAny_holding (merge_map nr na nS hd ha (by simp; omega) fun h1 hd1 ha1 hs1 => ?_)))))
  have hn : (kvs.map (·.1)).Nodup := by
    obtain ⟨_, _, _, _, _, _, _, _, hn⟩ := ha
    exact hn
  rw [merged_nil_of_nodup kvs hn] at hd1
  rw [if_neg (show ¬ ((0 + 1 == 17) = true) by decide)]
  refine wpAny_bind (wpAny_pure ?_)
  dsimp only
  refine wpAny_bind (wpAny_pure ?_)
  dsimp only
  rw [if_neg (show ¬ (([(tk, tv)] : List (Sem Value × Sem Value)).isEmpty = true) from Bool.false_ne_true)]
  refine wpAny_bind (wpAny_bind (wpAny_holding (wpAny_subDict (knd := knd) (show 1 ≤ 15 by decide) (wpAny_mono (z h1 hd1 hs1) (fun vs s2 y => ?_) fun _ _ e => e))))
  obtain ⟨k, v, kvs2, hc, h0, hd2, hl2, ne, nS2, q⟩ := y
  refine ⟨[(k, v)], hc, h0, fun h2 hs2 hb2 => ?_⟩
  have hs2 : h2.DictOf knd h1.objs.size [(k, v)] := hs2
  refine wpAny_bind (wpAny_onRaise (wpAny_holding (merge_map nr ne nS2 (hd2.sameBut hb2 ne) hs2 (by simp; omega) fun h3 hd3 hs3 hb3 => ?_)))
  refine wpAny_pure ?_
  dsimp only
  exact wpAny_pure (q h2 h3 hs2 hb2 hd3 hs3 hb3)
end
theorem mix_ref {prog : Program} {w : World} (k : Key) (b : Addr) : (mixKind prog w).is k (.ref b) = false := by
  cases e : (mixKind prog w).is k (.ref b) with
  | false => rfl
  | true =>
    rcases keyIs_shape e with ⟨_, _, _, z⟩ | ⟨_, _, _, z⟩ <;> cases z
/-- {**e, k: v}: e's entries, k's among them or behind -/
def tDUn (ta tk tv : TE) : TE := fun σ H Q => ∀ d, H d = Option.none → ta σ (upd H d (.dK [])) fun x H1 => ∃ (a : Addr) (kvs : List (Key × V)), x = .ref a ∧ a ≠ d ∧ H1 a = some (.dK kvs) ∧ H1 d = some (.dK []) ∧ kvs.length < sizeLine ∧
  ∀ e, (upd H1 d (.dK kvs)) e = Option.none → tk σ (upd (upd H1 d (.dK kvs)) e (.dK [])) fun y H2 => tv σ H2 fun z H3 => H3 e = some (.dK []) ∧ H3 d = some (.dK kvs) ∧ ∃ k : Key, y = kV k ∧ Q (.ref d) (upd (upd H3 e (.dK [(k, z)])) d (.dK (putK kvs k z)))
theorem pe_dun {X : Cx} {pos : Pos} {ea ek ev : Expr} {ta tk tv : TE} (ha : PE X ea ta) (hk : PE X ek tk) (hv : PE X ev tv) : PE X (.Dict [Option.none, some ek] [ea, ev] pos) (tDUn ta tk tv) := by
  refine ⟨fun pins s σ H Q I q => ?_⟩
  have hn := I.hok.fresh (Nat.le_refl s.heap.objs.size)
  have I1 := I.laid (a := s.heap.objs.size) (o := .dK []) (h' := s.heap.push { cls := .type "dict", data := .dict #[] }) (t' := s.toks) (fun _ _ q => Heap.get?_push_of_some _ q) (Nat.le_refl _) (dk_empty s.heap I.big)
  rw [arm_eval_Dict]
  refine wpAny_bind (wpAny_standAt ?_)
  refine display_un (knd := mixKind X.prog X.w) mix_ref (wpAny_bind (thn (ha.run pins _ σ _ _ I1 (q _ hn)) fun u s1 z => ?_))
  obtain ⟨x, H1, J1, rx, a, kvs, rfl, na, ea, ed, hl, q1⟩ := z
  obtain rfl : u = Value.ref a := rx
  refine wpAny_bind (wpAny_standAt (wpAny_pure ?_))
  obtain ⟨zl, nS, vs, r, dd⟩ := dk_of J1.hok ea
  obtain ⟨_, dS, vs0, r0, d0⟩ := dk_of J1.hok ed
  cases r0
  have lv : vs.length = kvs.length := r.length.symm
  refine ⟨a, vs, rfl, Ne.symm na, nS, d0, dd, by omega, fun h1 hd1 hb1 => ?_⟩
  have he1 : ∃ p, h1.get? s.heap.objs.size = some p := by
    obtain ⟨p, _, _, hp, _⟩ := hd1
    exact ⟨p, hp⟩
  have J2 := d_write (t' := s1.toks) J1 (by rw [ed]; exact True.intro) hb1 he1 (dk_new zl dS r hd1)
  have hn2 := J2.hok.fresh (Nat.le_refl h1.objs.size)
  have J3 := J2.laid (a := h1.objs.size) (o := .dK []) (h' := h1.push { cls := .type "dict", data := .dict #[] }) (t' := s1.toks) (fun _ _ q => Heap.get?_push_of_some _ q) (Nat.le_refl _) (dk_empty h1 J2.big)
  refine thn ((pps_cons (pos := pos) hk hv pps_nil).run pins _ σ _ (fun ps H3 => match ps with
    | [(y, z)] => H3 h1.objs.size = some (.dK []) ∧ H3 s.heap.objs.size = some (.dK kvs) ∧ ∃ k : Key, y = kV k ∧ Q (.ref s.heap.objs.size) (upd (upd H3 h1.objs.size (.dK [(k, z)])) s.heap.objs.size (.dK (putK kvs k z)))
    | _ => False) J3 (q1 _ hn2)) fun ws s2 z => ?_
  obtain ⟨ps, H3, J4, rel, qq⟩ := z
  match ps, qq with
  | [(y, z)], qq =>
    obtain ⟨e3, e4, k, rfl, q2⟩ := qq
    obtain ⟨rs, c, rk⟩ := carries_of (P := X.prog) (w := X.w) (kvs := [(k, z)]) rel
    obtain ⟨zl2, _, vs2, r2, d2⟩ := dk_of J4.hok e4
    obtain ⟨_, eS, vs3, r3, d3⟩ := dk_of J4.hok e3
    cases r3
    match rs, rk with
    | [(k', v)], rk =>
      obtain rfl : k' = k := by
        cases rk with
        | cons p _ => exact p.1.symm
      have ne : s.heap.objs.size ≠ h1.objs.size := fun z => by
        rw [← z, upd_same] at hn2
        cases hn2
      have lv2 : vs2.length = kvs.length := r2.length.symm
      refine ⟨k', v, vs2, c, d3, d2, by omega, ne, eS, fun h2 h3 hs2 hb2 hd3 hs3 hb3 => ?_⟩
      have he2 : ∃ p, h2.get? h1.objs.size = some p := by
        obtain ⟨p, _, _, hp, _⟩ := hs2
        exact ⟨p, hp⟩
      have he3 : ∃ p, h3.get? s.heap.objs.size = some p := by
        obtain ⟨p, _, _, hp, _⟩ := hd3
        exact ⟨p, hp⟩
      have J5 := d_write (t' := s2.toks) J4 (by rw [e3]; exact True.intro) hb2 he2 (dk_new (kvs := [(k', z)]) (show 1 ≤ sizeLine by decide) eS rk hs2)
      have e5 : (upd H3 h1.objs.size (.dK [(k', z)])) s.heap.objs.size = some (.dK kvs) := by rw [upd_ne ne]; exact e4
      have J6 := d_write (ob := .dK (putK kvs k' z)) (t' := s2.toks + ws.length) J5 (by rw [e5]; exact True.intro) hb3 he3 (dk_new (by have := length_putK kvs k' z; omega) dS (by
        cases rk with
        | cons p _ => exact r2.put k' p.2) hd3)
      exact ⟨.ref s.heap.objs.size, _, J6, rfl, q2⟩

/-! ### raise X(..) from e, e the error that is handled -/
section
open HotX
/-- the heap behind «from e»: field 3 is e, field 4 is True -/
def refFrom (h : Heap) (a x2 : Addr) : Heap := (h.update a (Obj.mapFields (·.setIfInBounds 3 (.ref x2)))).update a (Obj.mapFields (·.setIfInBounds 4 (.bool true)))
theorem refFrom_at {h : Heap} {a x2 : Addr} {oe : Obj} {vs : Array Value} (ha : h.get? a = some oe) (hd : oe.data = .fields vs) :
    (refFrom h a x2).get? a = some ((oe.mapFields (·.setIfInBounds 3 (.ref x2))).mapFields (·.setIfInBounds 4 (.bool true))) ∧ ((oe.mapFields (·.setIfInBounds 3 (.ref x2))).mapFields (·.setIfInBounds 4 (.bool true))).data = .fields ((vs.setIfInBounds 3 (.ref x2)).setIfInBounds 4 (.bool true)) := by
  have d3 := Obj.data_mapFields hd (·.setIfInBounds 3 (.ref x2))
  have a3 := Heap.get?_update_self (Obj.mapFields (·.setIfInBounds 3 (.ref x2))) ha (Obj.isFreed_of_fields d3)
  have d4 := Obj.data_mapFields d3 (·.setIfInBounds 4 (.bool true))
  exact ⟨Heap.get?_update_self (Obj.mapFields (·.setIfInBounds 4 (.bool true))) a3 (Obj.isFreed_of_fields d4), d4⟩
theorem refFrom_other {h : Heap} {a b x2 : Addr} (ne : a ≠ b) : (refFrom h a x2).get? b = h.get? b := by
  unfold refFrom
  rw [Heap.get?_update_other _ _ ne, Heap.get?_update_other _ _ ne]
theorem raise_refW {prog : Program} {w : World} {A : Around} {E : Value → Shared → Prop} {env : Env} {s : Shared} {x c : Sem Value} {Q : Flow → Shared → Prop} {x1 : Addr}
    (h : wpAny (model prog w) A x (fun v s1 => ∃ a, v = .ref a ∧ wpAny (model prog w) A c (fun cv s2 => ∃ oe vs cls x2 o2 vs2, cv = .ref x2 ∧ s2.heap.get? a = some oe ∧ oe.cls = cls ∧ oe.data = .fields vs ∧ vs[1]? = some .none ∧ 4 < vs.size ∧ x1 ≠ a ∧ HotAt A x1 s2.heap ∧
      PySem.W.Looks (model prog w) s2.heap (isSubtype cls (.type "BaseException")) true ∧ PySem.W.Looks (model prog w) (refFrom s2.heap a x2) (typeOf cls) (.type "type") ∧
      s2.heap.get? x2 = some o2 ∧ o2.data = .fields vs2 ∧ PySem.W.Looks (model prog w) s2.heap (isSubtype o2.cls (.type "BaseException")) true ∧
      E (.ref a) { s2 with heap := (refFrom s2.heap a x2).update a (Obj.mapFields (·.setIfInBounds 2 (.ref x1))) }) E s1) E s) :
    wpAny (model prog w) A (raiseStmt env (some x) (some c)) Q E s := by
  unfold raiseStmt
  dsimp only
  refine wpAny_bind (wpAny_mono h (fun v s0 h0 => ?_) fun _ _ x => x)
  obtain ⟨a, rfl, hc⟩ := h0
  refine wpAny_bind (wpAny_holding (wpAny_mono hc (fun cv s1 z => ?_) fun _ _ x => x))
  obtain ⟨oe, vs, cls, x2, o2, vs2, rfl, ha, hcls, hd, h1, hi, hne, hot, L1, L3, h2, d2, L2', hE⟩ := z
  have nt : ∀ {b : Addr} {o : Obj} {us : Array Value} {s' : Shared} {Q' : Bool → Shared → Prop}, s'.heap.get? b = some o → o.data = .fields us → Q' false s' → wpAny (model prog w) A (isType (.ref b)) Q' E s' := by
    intro b o us s' Q' hb hdb hq
    simp only [isType, loadHead]
    refine wpAny_bind (wpAny_loadPart hb ?_)
    rw [hdb]; exact wpAny_pure hq
  have LT : PySem.W.Looks (model prog w) s1.heap (typeOf (.ref a)) cls := fun A Q E s k q => wpAny_typeOf_ref (k _ _ ha) (by rw [hcls]; exact q)
  have LI : PySem.W.Looks (model prog w) s1.heap (isInstance (.ref a) (.type "BaseException")) true := LT.andThen L1
  have LT2 : PySem.W.Looks (model prog w) s1.heap (typeOf (.ref x2)) o2.cls := fun A Q E s k q => wpAny_typeOf_ref (k _ _ h2) q
  have LI2 : PySem.W.Looks (model prog w) s1.heap (isInstance (.ref x2) (.type "BaseException")) true := LT2.andThen L2'
  have d3 := Obj.data_mapFields hd (·.setIfInBounds 3 (.ref x2))
  have a3 := Heap.get?_update_self (Obj.mapFields (·.setIfInBounds 3 (.ref x2))) ha (Obj.isFreed_of_fields d3)
  obtain ⟨ha4, hd4⟩ := refFrom_at (x2 := x2) ha hd
  have s3 : 3 < vs.size := by omega
  have s4 : 4 < (vs.setIfInBounds 3 (.ref x2)).size := by rw [set_size]; exact hi
  have s2 : 2 < ((vs.setIfInBounds 3 (.ref x2)).setIfInBounds 4 (Value.bool true)).size := by rw [set_size, set_size]; omega
  have h14 : ((vs.setIfInBounds 3 (.ref x2)).setIfInBounds 4 (Value.bool true))[1]? = some Value.none := set_other (by decide) (set_other (by decide) h1)
  have hcls4 : ((oe.mapFields (·.setIfInBounds 3 (.ref x2))).mapFields (·.setIfInBounds 4 (.bool true))).cls = cls := by rw [Obj.cls_mapFields, Obj.cls_mapFields]; exact hcls
  have LT4 : PySem.W.Looks (model prog w) (refFrom s1.heap a x2) (typeOf (.ref a)) cls := fun A Q E s k q => wpAny_typeOf_ref (k _ _ ha4) (by rw [hcls4]; exact q)
  have hot4 : HotAt A x1 (refFrom s1.heap a x2) := by
    obtain ⟨q1, o, vs', q2, q3, q4⟩ := hot
    exact ⟨q1, o, vs', by rw [refFrom_other (Ne.symm hne)]; exact q2, q3, q4⟩
  refine wpAny_bind (wpAny_pure ?_)
  dsimp only
  refine wpAny_bind (wpAny_holding ?_)
  unfold excFromValue isExcClass
  refine wpAny_bind (wpAny_bind (nt ha hd ?_))
  simp only [Bool.false_eq_true, if_false]
  refine wpAny_pure ?_
  simp only [Bool.false_eq_true, if_false]
  refine wpAny_bind (LI.here ?_)
  simp only [if_true]
  refine wpAny_pure ?_
  rw [if_neg (show ¬ ((Value.ref x2 == Value.none) = true) by simp)]
  refine wpAny_bind (wpAny_holding (wpAny_bind (wpAny_bind (nt h2 d2 ?_))))
  simp only [Bool.false_eq_true, if_false]
  refine wpAny_pure ?_
  simp only [Bool.false_eq_true, if_false]
  refine wpAny_bind (LI2.here ?_)
  simp only [if_true]
  refine wpAny_pure ?_
  refine wpAny_bind (wpAny_setField ha hd s3 (wpAny_bind (wpAny_setField a3 d3 s4 ?_)))
  show wpAny _ _ _ _ _ { s1 with heap := refFrom s1.heap a x2 }
  refine wpAny_bind (nt ha4 hd4 ?_)
  simp only [Bool.false_eq_true, if_false]
  unfold raisedInstance
  refine wpAny_bind (wpAny_bind (LT4.here (wpAny_bind (L3.here ?_))))
  rw [if_pos (beq_self_eq_true _)]
  refine wpAny_pure ?_
  unfold setFlight
  refine wpAny_bind (wpAny_bind (wpAny_field ha4 hd4 h14 ?_))
  rw [if_neg (by decide)]
  refine wpAny_pure ?_
  exact raiseNew_hot hot4 hne ha4 hd4 s2 hE
open L2H
/-- a name read, the state as it stands -/
theorem var_eval {X : Cx} {pins : List (Addr × Obj)} {σ : L2.St} {H : Hp} {s : Shared} {E : Value → Shared → Prop} {i : Nat} {x : Str} {b : Addr} {pos : Pos} {Q : Value → Shared → Prop} (I : Inv X pins σ H s) (hN : X.N[i]? = some x) (hv : Vis X.env.scope x) (hs : σ[i]? = some (some (.ref b))) (h : Q (.ref b) s)
    (hd : (x == ("__debug__" : Str)) = false := by decide) (hcd : (x == ("__classdict__" : Str)) = false := by decide) : wpAny (model X.prog X.w) X.A (eval (.Name x pos) X.env) Q E s := by
  obtain ⟨m, hn, hl⟩ := I.loc
  obtain ⟨u, r, l⟩ := hl i x _ hN hs hv
  obtain rfl : u = Value.ref b := r
  rcases l with ⟨hk, hm⟩ | ⟨hk, c, hc, hcell⟩
  · exact wpAny_Name (wpAny_loadName_local I.ok.kind hk hn hm h) hd
  · rcases hk with hk | hk
    · exact wpAny_Name (wpAny_loadName_cell I.ok.kind hk hc hcell h) hd
    · exact wpAny_Name (wpAny_loadName_free I.ok.kind hk hc hcell h hcd) hd
/-- raise X(..) from e, e the name of the clause -/
theorem ps_raiseHP {X : Cx} {W : WX} {e : Expr} {t : L2.St → Hp → XK → Prop} {i : Nat} {x : Str} {cpos pos : Pos} {p : Addr × Obj} {cls0 : Value} (hot : Hot1 X.A p) (hp : p ∈ X.pn) (hz0 : p.2.cls = cls0) (tk : L2.Takes X W) (he : PMk5 X e t) (hN : X.N[i]? = some x) (hv : Vis X.env.scope x)
    (hdb : (x == ("__debug__" : Str)) = false := by decide) (hcd : (x == ("__classdict__" : Str)) = false := by decide) :
    PS X (.Raise (some e) (some (.Name x cpos)) pos) (fun _ σ H => t σ H fun cls d H' => σ[i]? = some (some (.ref p.1)) ∧ PySem.W.subIn X.K cls0 (.type "BaseException") = some true ∧ W cls d σ H') := by
  refine ⟨fun pins s σ H D I h => ?_⟩
  obtain ⟨hh, v1, e1, c1⟩ := hot
  show wpAny _ _ (do standAt pos; raiseStmt X.env (some (do let v ← eval e X.env; standAt pos; pure v)) (some (do let v ← eval (.Name x cpos) X.env; standAt pos; pure v))) _ _ _
  refine wpAny_bind (wpAny_standAt (raise_refW (x1 := p.1) (wpAny_bind (wpAny_mono (he pins s σ H _ I h) (fun u s1 hu => wpAny_bind (wpAny_standAt (wpAny_pure ?_))) fun _ _ x => x))))
  obtain ⟨⟨a, oe, vs, sI, H', cls, d, rfl, J, k, hne, ha, hz, hd, h1, na, os, ag, r, hb, ec, q⟩, h5⟩ := hu
  have J1 := J.kept (t' := s1.toks) (h' := s1.heap) k
  have J2 : Inv X pins σ H' s1 := ⟨J1.ok, os.trans J.os, ag, J1.base, J1.loc, J1.cell, J1.free, J1.freeC, J1.pin, J1.hok, J1.len⟩
  refine ⟨a, rfl, wpAny_bind (var_eval J2 hN hv hb (wpAny_bind (wpAny_standAt (wpAny_pure ?_))) hdb hcd)⟩
  have hi : 4 < vs.size := h5 a oe vs rfl ha hd
  have k4 : ∀ c u, sI.heap.get? c = some u → (refFrom s1.heap a p.1).get? c = some u := fun c u z => by
    have nab : a ≠ c := fun y => by
      rw [← y, hne] at z
      cases z
    rw [refFrom_other nab]
    exact k c u z
  obtain ⟨r1, _⟩ := r (model X.prog X.w) s1.heap (J.kIn.keeps k)
  obtain ⟨_, r2⟩ := r (model X.prog X.w) (refFrom s1.heap a p.1) (J.kIn.keeps k4)
  have P1 := (J.pin p (List.mem_append_left _ hp)).1
  have nap : p.1 ≠ a := fun z => by
    rw [z, hne] at P1
    cases P1
  obtain ⟨ha4, hd4⟩ := refFrom_at (x2 := p.1) ha hd
  have h12 : (((vs.setIfInBounds 3 (.ref p.1)).setIfInBounds 4 (Value.bool true)).setIfInBounds 2 (Value.ref p.1))[1]? = some Value.none := set_other (by decide) (set_other (by decide) (set_other (by decide) h1))
  have LB : PySem.W.Looks (model X.prog X.w) s1.heap (isSubtype p.2.cls (.type "BaseException")) true := by
    rw [hz0]
    exact PySem.W.looks_subIn J2.kIn ec
  refine ⟨oe, vs, cls, p.1, p.2, v1, rfl, ha, hz.1, hd, h1, hi, nap, ⟨hh, p.2, v1, k _ _ P1, e1, c1⟩, r1, r2, k _ _ P1, e1, LB, tk _ _ (XE.new J (fun c u z => ?_) hne (Heap.get?_update_self _ ha4 (Obj.isFreed_of_fields (Obj.data_mapFields hd4 _)))
    ⟨by rw [Obj.cls_mapFields, Obj.cls_mapFields, Obj.cls_mapFields]; exact hz.1, by rw [HandSPX.dict_mapFields, HandSPX.dict_mapFields, HandSPX.dict_mapFields]; exact hz.2.1⟩ (Obj.data_mapFields hd4 _) h12 na os ag q)⟩
  have nab : a ≠ c := fun y => by
    rw [← y, hne] at z
    cases z
  show ((refFrom s1.heap a p.1).update a (Obj.mapFields (·.setIfInBounds 2 (.ref p.1)))).get? c = some u
  rw [Heap.get?_update_other _ _ nab]
  exact k4 c u z
end

/-! ### x[k] and x[k] = v, x an instance with __getitem__ and __setitem__ of its own -/
section
variable {X : Cx} {CX : CXT} {k : Nat} {f C : Addr} {fd : FuncData} {ps : List Str} {sp : Sp} {E : XK}
def rIxO (C : Addr) (sp : Sp) (E : XK) : R2 := fun x y H Q => ∃ (a dx : Addr) (fs : List (Str × V)), x = .ref a ∧ H a = some (.ins C dx fs) ∧ sp [.ref a, y] H Q E
theorem pe_ixO {a b : Expr} {ta tb : TE} {pos : Pos} (F : FnOk X.prog X.w X.K X.mg X.base CX k f fd ps sp) (hr : Room (k + 1) X.A) (hb : Binds X.K fd ps []) (hx : Passes CX X E) (hs : PySem.W.findIn X.K (.ref C) "__getitem__" = some (some (.ref f))) (hf : PySem.W.fnIn X.K f = true) (hfn : PySem.W.isFn X.K (.ref f) = true)
    (ha : PE X a ta) (hi : PE X b tb) (hsl : ∀ o i, subscripted b true o i = runValue (.builtin "lifetime.subscript" ⟨[o, i], []⟩) := by intros; rfl) : PE X (.Subscript a b pos) (tOp (rIxO C sp E) ta tb) := by
  refine ⟨fun pins s σ H Q I h => PyProof.Rows.Subscript_ (thn (ha.run pins s σ H _ I h) fun v s1 z => ?_)⟩
  obtain ⟨x, H1, I1, rx, h1⟩ := z
  refine thn (hi.run pins s1 σ H1 _ I1 h1) fun u s2 z => ?_
  obtain ⟨y, H2, I2, ry, q, dx, fs, rfl, ea, h2⟩ := z
  obtain rfl : v = Value.ref q := rx
  obtain ⟨o, od, J⟩ := ins_at I2 ea
  obtain ⟨m, hF⟩ := I2.fr
  exact PySem.W.sub_K hF I2.ok.mod.kin J hs hf hfn (run_fn1 (us := [.ref q, u]) (vs := [.ref q, y]) F hr hb hx I2 (.cons rfl (.cons ry .nil)) h2) (hsl _ _)
def rSetO (C : Addr) (sp : Sp) (E : XK) : V → V → V → Hp → (Hp → Prop) → Prop := fun o i v H Q => ∃ (a dx : Addr) (fs : List (Str × V)), o = .ref a ∧ H a = some (.ins C dx fs) ∧ sp [.ref a, i, v] H (fun _ H' => Q H') E
theorem set_ownO (F : FnOk X.prog X.w X.K X.mg X.base CX k f fd ps sp) (hr : Room k X.A) (hb : Binds X.K fd ps []) (hx : Passes CX X E) (hq : PySem.W.noSeq X.K C = true) (hs : PySem.W.findIn X.K (.ref C) "__setitem__" = some (some (.ref f))) (hf : PySem.W.isFn X.K (.ref f) = true) : PSet X (rSetO C sp E) := by
  intro pins s σ H o i v ov iv u Q I ro ri rv h
  obtain ⟨a, dx, fs, rfl, ea, h2⟩ := h
  obtain rfl : ov = Value.ref a := ro
  obtain ⟨oo, od, J⟩ := ins_at I ea
  have XK := I.kIn
  unfold setItem sequenceKey
  refine wpAny_holding (wpAny_bind (wpAny_bind (J.type.here ?_)))
  refine wpAny_bind ((PySem.W.anyM_none XK hq).here ?_)
  rw [if_pos (show (!false) = true from rfl)]
  refine wpAny_pure (wpAny_bind (PySem.W.special_fn XK J hs (beq_iff_eq.mp hf) (wpAny_mono (run_fn (us := [.ref a, iv, u]) (vs := [.ref a, i, v]) F hr hb .nil hx I (.cons rfl (.cons ri (.cons rv .nil))) h2) (fun r s1 z => ?_) fun _ _ z => z)))
  obtain ⟨w, H1, I1, rw1, q⟩ := z
  exact wpAny_pure ⟨H1, I1, q⟩
end

/-! ### a state without some objects that nothing of ours is -/
section
variable {X : Cx} {pins : List (Addr × Obj)} {σ : L2.St} {H : Hp} {s : Shared}
/-- a is none of ours -/
structure Alien (X : Cx) (pins : List (Addr × Obj)) (H : Hp) (a : Addr) : Prop where
  un : H a = Option.none
  s0 : X.s_0.heap.get? a = Option.none
  loc : a ≠ X.env.locals
  cell : ∀ x c, X.env.cells.lookup x = some c → c ≠ a
  pin : ∀ p ∈ X.pn ++ pins, p.1 ≠ a
theorem Inv.hide {l : List Addr} (I : Inv X pins σ H s) (hl : ∀ a ∈ l, Alien X pins H a) : Inv X pins σ H { s with heap := PySem.W.hideAll s.heap l } := by
  have kp : ∀ {b o}, b ∉ l → s.heap.get? b = some o → (PySem.W.hideAll s.heap l).get? b = some o := fun nb e => PySem.W.hideAll_get _ e nb
  have n0 : ∀ {b o}, X.s_0.heap.get? b = some o → b ∉ l := fun e hb => by rw [(hl _ hb).s0] at e; cases e
  have nH : ∀ {b o}, H b = some o → b ∉ l := fun e hb => by rw [(hl _ hb).un] at e; cases e
  have nL : X.env.locals ∉ l := fun hb => (hl _ hb).loc rfl
  have nC : ∀ {x c}, X.env.cells.lookup x = some c → c ∉ l := fun e hb => (hl _ hb).cell _ _ e rfl
  refine ⟨I.ok, I.os, I.bare, ⟨fun b o e n hb hx => kp (n0 e) (I.base.keep b o e n hb hx), fun b o e n hb hx => ?_, I.base.free, fun b o e hx => ?_, I.base.tups, I.base.frzs, I.base.tbls⟩, ?_, fun x c e => ?_, I.free, I.freeC, fun p hp => ?_, fun b o e => ?_, I.len⟩
  · obtain ⟨sl, z⟩ := I.base.slot b o e n hb hx
    exact ⟨sl, kp (n0 e) z⟩
  · obtain ⟨o', z⟩ := I.base.there b o e hx
    exact ⟨o', kp (n0 e) z⟩
  · obtain ⟨m, ⟨oo, es, ep, ho, r⟩, hlk⟩ := I.loc
    refine ⟨m, ⟨oo, es, ep, kp nL ho, r⟩, fun i x v e1 e2 e3 => ?_⟩
    obtain ⟨u, rv, q⟩ := hlk i x v e1 e2 e3
    refine ⟨u, rv, ?_⟩
    rcases q with ⟨k1, k2⟩ | ⟨k1, c, k2, oc, k3, k4⟩
    · exact .inl ⟨k1, k2⟩
    · exact .inr ⟨k1, c, k2, oc, kp (nC k2) k3, k4⟩
  · obtain ⟨v, oc, k3, k4⟩ := I.cell x c e
    exact ⟨v, oc, kp (nC e) k3, k4⟩
  · obtain ⟨p1, p2⟩ := I.pin p hp
    exact ⟨kp (fun hb => (hl _ hb).pin p hp rfl) p1, p2⟩
  · refine (I.hok b o e).stay (fun d u hd q => kp ?_ q) (fun _ z => z) fun _ _ z => z
    rcases hd with rfl | hd
    · exact nH e
    · exact nH hd
end

/-- an error with its record, held by this frame: it is in the air of X, whatever has become of the names since; and so behind what changes slots and records alone -/
theorem held_of {X : Cx} {W : WX} {pins : List (Addr × Obj)} {σ : L2.St} {H : Hp} {s : Shared} {a t : Addr} {oe oT : Obj} {vs ts : Array Value} {cls : Value} {d : Option Addr} (J : Inv X pins σ H s) (ha : s.heap.get? a = some oe) (hz : Zc cls d oe) (hd : oe.data = .fields vs) (h1 : vs[1]? = some (.ref t)) (ne : t ≠ a)
    (ht : s.heap.get? t = some oT) (hdt : oT.data = .fields ts) (h3 : ts[3]? = some (rawInt X.env.locals)) (la : Alien X pins H a) (lt : Alien X pins H t) (w : W cls d σ H) :
    ∃ B, HandSPX.HeldZ B X.stack a (Zc cls d) X.env.locals s.heap ∧ ∀ h', HandSPX.HeldZ B X.stack a (Zc cls d) X.env.locals h' → s.heap.UpToSlots h' → XE X W (.ref a) { s with heap := h' } := by
  have I := Inv.hide (l := [a, t]) J fun b hb => by
    simp only [List.mem_cons, List.not_mem_nil, or_false] at hb
    rcases hb with rfl | rfl
    · exact la
    · exact lt
  have k : ∀ b o, (PySem.W.hideAll s.heap [a, t]).get? b = some o → s.heap.get? b = some o := fun b o e => PySem.W.of_hideAll _ e
  have no : ∀ b ∈ [a, t], (PySem.W.hideAll (PySem.W.hideAll s.heap [a, t]) (frs X.stack)).get? b = Option.none := fun b hb => by
    cases q : (PySem.W.hideAll (PySem.W.hideAll s.heap [a, t]) (frs X.stack)).get? b with
    | none => rfl
    | some o =>
      have z := PySem.W.of_hideAll _ q
      rw [PySem.W.hideAll_none _ hb] at z
      cases z
  refine ⟨PySem.W.hideAll (PySem.W.hideAll s.heap [a, t]) (frs X.stack), ⟨fun b o e => k b o (PySem.W.of_hideAll _ e), no a (by simp), ?_, oe, vs, t, oT, ts, ha, hz, hd, h1, no t (by simp), ne, ht, hdt, h3⟩, fun h' hh up => ?_⟩
  · exact Heap.FunFrames.of_keeps (fun b o e _ => ⟨o, k b o e, rfl⟩) (funFrames_none I.stack fun b hb => PySem.W.hideAll_none _ hb)
  · exact ⟨a, _, { s with heap := PySem.W.hideAll s.heap [a, t] }, pins, σ, H, cls, d, rfl, I, fun b o e hb => PySem.W.hideAll_get _ e hb, (Heap.UpToSlots.of_keeps k).trans up, .inr (.inr hh), la.un, rfl, J.bare, w⟩
theorem xe_held {X : Cx} {W : WX} {pins : List (Addr × Obj)} {σ : L2.St} {H : Hp} {s : Shared} {a t : Addr} {oe oT : Obj} {vs ts : Array Value} {cls : Value} {d : Option Addr} (J : Inv X pins σ H s) (ha : s.heap.get? a = some oe) (hz : Zc cls d oe) (hd : oe.data = .fields vs) (h1 : vs[1]? = some (.ref t)) (ne : t ≠ a)
    (ht : s.heap.get? t = some oT) (hdt : oT.data = .fields ts) (h3 : ts[3]? = some (rawInt X.env.locals)) (la : Alien X pins H a) (lt : Alien X pins H t) (w : W cls d σ H) : XE X W (.ref a) s := by
  obtain ⟨B, hh, k⟩ := held_of J ha hz hd h1 ne ht hdt h3 la lt w
  exact k s.heap hh (Heap.UpToSlots.refl _)
/-- .. and passed on -/
theorem pass_held {X : Cx} {W : WX} {pins : List (Addr × Obj)} {σ : L2.St} {H : Hp} {s : Shared} {A : Around} {R : Value → Shared → Prop} {a t : Addr} {oe oT : Obj} {vs ts : Array Value} {cls : Value} {d : Option Addr} {what : String} (J : Inv X pins σ H s) (hf : X.env.frame = some X.env.locals) (ha : s.heap.get? a = some oe) (hz : Zc cls d oe) (hd : oe.data = .fields vs) (h1 : vs[1]? = some (.ref t)) (ne : t ≠ a)
    (ht : s.heap.get? t = some oT) (hdt : oT.data = .fields ts) (h3 : ts[3]? = some (rawInt X.env.locals)) (la : Alien X pins H a) (lt : Alien X pins H t) (w : W cls d σ H) (h : ∀ s', XE X W (.ref a) s' → R (.ref a) s') :
    wpAny (model X.prog X.w) A (PySem.passOn what (.ref a) X.env : Sem Flow) (fun _ _ => False) R s := by
  obtain ⟨B, hh, k⟩ := held_of J ha hz hd h1 ne ht hdt h3 la lt w
  unfold PySem.passOn
  refine wpAny_bind (wpAny_field ha hd h1 ?_)
  rw [if_neg (show ¬ ((Value.ref t == Value.none) = true) from by simp)]
  have fin : wpAny (model X.prog X.w) A (setFlight (.ref a) X.env.frame) (fun _ s4 => wpAny (model X.prog X.w) A (throw (.ref a) : Sem Flow) (fun _ _ => False) R s4) R s := by
    rw [hf]
    obtain ⟨f1, f2, f3, f4⟩ := hh
    exact HandSPX.setFlight_anyZ f1 f3 f4 fun h' k1 k2 k3 k4 => wpAny_throw (h _ (k h' ⟨k1, f2, k2, k3⟩ k4))
  first
    | exact wpAny_bind (wpAny_pure (wpAny_bind fin))
    | exact wpAny_bind fin

/-- an error comes out of an except suite with a name: the name goes, the error is in the air of the def -/
theorem suite_off {X : Cx} {W W' : WX} {pins : List (Addr × Obj)} {s : Shared} {A : Around} {E1 E2 R : Value → Shared → Prop} {i : Nat} {n : Str} {pos : Pos} {what : String} {a : Addr} {q : Addr × Obj} {u : Value} (hs : X.stack = X.env :: X.outer) (hf : X.env.frame = some X.env.locals) (hex : X.ex = []) (hN : X.N.Nodup) (hi : X.N[i]? = some n) (hln : X.env.kindOf n = some .local) (ok : X.Ok)
    (hfr : A.frames = some (X.env :: X.outer)) (x : XE (L2H.suiteX X a (q :: (X.pn ++ pins))) W u s) (hW : ∀ cls d σ H, W cls d σ H → W' cls d (σ.set i Option.none) H) (hR : ∀ s', XE X W' u s' → R u s') :
    wpAny (model X.prog X.w) A (noteFrame u X.env) (fun _ s1 => wpAny (model X.prog X.w) A (do bindName X.env n .none; unbindBehindTheSuite X.env n pos) (fun _ s2 => wpAny (model X.prog X.w) A (PySem.passOn what u X.env : Sem Flow) (fun _ _ => False) R s2) E1 s1) E2 s := by
  obtain ⟨e, B, sI, pins2, σ, H, cls, d, rfl, I2, nb, up, sky, na, os, ag, w⟩ := x
  have J : Inv X pins σ H sI := L2H.unsuiteX I2 ok
  have sky' : Sky B (X.env :: X.outer) e (Zc cls d) X.env.locals s.heap := by rw [← hs]; exact sky
  have fin : ∀ h1, HandSPX.HeldZ B (X.env :: X.outer) e (Zc cls d) X.env.locals h1 → s.heap.UpToSlots h1 → wpAny (model X.prog X.w) A (do bindName X.env n .none; unbindBehindTheSuite X.env n pos) (fun _ s2 => wpAny (model X.prog X.w) A (PySem.passOn what (.ref e) X.env : Sem Flow) (fun _ _ => False) R s2) E1 { s with heap := h1 } := by
    intro h1 hh up1
    have J3 : Inv X pins σ H { s with heap := h1 } := J.landed nb hh.1 (up.trans up1) os ag
    obtain ⟨k1, k2, k3, oe, vs, T, oT, ts, he, hz, hd, h1', bT, neT, hT, hdT, h3⟩ := hh
    have nfr : ∀ {b : Addr} {o : Obj} {us : Array Value}, h1.get? b = some o → o.data = .fields us → b ∉ frs (X.env :: X.outer) := fun eb db hm => by
      obtain ⟨_, o2, e2, nd⟩ := k3.mem hm
      rw [eb] at e2
      cases e2
      exact nd _ db
    have alien : ∀ {b : Addr} {o : Obj} {us : Array Value}, h1.get? b = some o → o.data = .fields us → B.get? b = Option.none → Alien X pins H b ∧ b ∉ X.fs := by
      intro b o us eb db hb
      have nf := nfr eb db
      have nt : sI.heap.get? b = Option.none := by
        match z : sI.heap.get? b with
        | Option.none => rfl
        | some o2 =>
          have z2 := nb b o2 z (by rw [show (L2H.suiteX X a (q :: (X.pn ++ pins))).stack = X.env :: X.outer from hs]; exact nf)
          rw [hb] at z2
          cases z2
      refine ⟨⟨J.hok.gone nt, ?_, fun z => nf (List.mem_filterMap.mpr ⟨X.env, List.mem_cons_self, by rw [hf, z]⟩), fun x c ec z => ?_, fun p hp z => ?_⟩, fun hm => ?_⟩
      · match z : X.s_0.heap.get? b with
        | Option.none => rfl
        | some o2 =>
          obtain ⟨o3, z3⟩ := J.base.there b o2 z (by rw [hex]; exact List.not_mem_nil)
          rw [nt] at z3
          cases z3
      · obtain ⟨v, oc, k4, _⟩ := J.cell x c ec
        rw [z, nt] at k4
        cases k4
      · have z2 := (J.pin p hp).1
        rw [z, nt] at z2
        cases z2
      · obtain ⟨e2, he2, z⟩ := List.mem_filterMap.mp hm
        exact nf (List.mem_filterMap.mpr ⟨e2, List.mem_cons_of_mem _ he2, z⟩)
    obtain ⟨la, fa⟩ := alien he hd k2
    obtain ⟨lt, ft⟩ := alien hT hdT bT
    have J4 : Inv X ((e, oe) :: (T, oT) :: pins) σ H { s with heap := h1 } := ⟨J3.ok, J3.os, J3.bare, J3.base, J3.loc, J3.cell, J3.free, J3.freeC, fun p hp => by
      rcases List.mem_append.mp hp with z | z
      · exact J3.pin p (List.mem_append_left _ z)
      · rcases List.mem_cons.mp z with rfl | z
        · exact ⟨he, la.un, la.loc, fa, fun v z => by rw [hd] at z; cases z⟩
        · rcases List.mem_cons.mp z with rfl | z
          · exact ⟨hT, lt.un, lt.loc, ft, fun v z => by rw [hdT] at z; cases z⟩
          · exact J3.pin p (List.mem_append_right _ z), J3.hok, J3.len⟩
    refine gone_ok J4 hN hi hln fun s7 J7 => ?_
    have ha7 := (J7.pin (e, oe) (List.mem_append_right _ List.mem_cons_self)).1
    have ht7 := (J7.pin (T, oT) (List.mem_append_right _ (List.mem_cons_of_mem _ List.mem_cons_self))).1
    have J8 : Inv X pins (σ.set i Option.none) H s7 := ⟨J7.ok, J7.os, J7.bare, J7.base, J7.loc, J7.cell, J7.free, J7.freeC, fun p hp => J7.pin p (by
      rcases List.mem_append.mp hp with z | z
      · exact List.mem_append_left _ z
      · exact List.mem_append_right _ (List.mem_cons_of_mem _ (List.mem_cons_of_mem _ z))), J7.hok, J7.len⟩
    exact pass_held J8 hf ha7 hz hd h1' neT ht7 hdT h3 la lt (hW _ _ _ _ w) hR
  rcases sky' with ⟨hB, hn, hl, oe, vs, he, hz, hd, h1⟩ | fl | hh
  · exact HandSPX.look_newZ Zc.steady hfr hl hf he hB hn hd h1 hz fin
  · exact HandSPX.looks_onZ Zc.steady hfr hf fl fin
  · exact HandSPX.againZ hf hh.2.2.2 (fin s.heap hh (Heap.UpToSlots.refl _))

/-! ### an except suite with a name that raises -/
/-- what the clause «except x as n» wishes, where its suite raises -/
def wAsX (K : PySem.W.Frag) (c : Value) (i : Nat) (ts : Addr → Value → Option Addr → TS) (Wout : WX) (D : Ends) : WX := fun cls d σ H =>
  ∃ b, PySem.W.exmOne K cls c = some b ∧ (b = true → ∀ a, H a = Option.none → ts a cls d { nx := fun σ1 H1 => D.nx (σ1.set i Option.none) H1, rt := fun _ _ => False } (σ.set i (some (.ref a))) H) ∧ (b = false → Wout cls d σ H)
section
variable {X : Cx} {x n : Str} {c : Value} {i : Nat} {body suite : List Stmt} {b₀ : Stmt} {np pos pos' : Pos} {tb : WX → TS} {ts : Addr → Value → Option Addr → TS} {Wout : WX}
theorem ps_try_asX (hs : X.stack = X.env :: X.outer) (hf : X.env.frame = some X.env.locals) (hex : X.ex = []) (hN : X.N.Nodup) (hi : X.N[i]? = some n) (hln : X.env.kindOf n = some .local) (hc : Names X x c)
    (hpa : ∀ hd : Option Value, PassesOwnAt (model X.prog X.w) (X.A.mark hd) X.A X.env X.xe) (tk : L2.Takes X Wout)
    (hb : ∀ (W : WX) (pn : List (Addr × Obj)) (xe : Value → Shared → Prop), L2N.Takes (X.tr pn xe) W → PassesOwn (model X.prog X.w) X.A X.env xe → PSs (X.tr pn xe) body (tb W))
    (hsu : ∀ (a : Addr) (oe : Obj) (cls : Value) (d : Option Addr) (pn : List (Addr × Obj)) (xe : Value → Shared → Prop), L2N.Zn cls d oe → (∃ vs, oe.data = .fields vs) → L2.Takes ((L2H.suiteX X a ((a, oe) :: pn)).wish xe) (fun cls d σ H => Wout cls d (σ.set i Option.none) H) → L2H.Hot1 (X.A.mark (some (.ref a))) (a, oe) →
      PSs ((L2H.suiteX X a ((a, oe) :: pn)).wish xe) (b₀ :: suite) (ts a cls d)) :
    PS X (.Try body [.ExceptHandler (some (.Name x np)) (some n) (b₀ :: suite) pos'] [] [] pos) (fun D σ H => tb (wAsX X.K c i ts Wout D) D σ H) := by
  refine ⟨fun pins s σ H D I h => ?_⟩
  have ok := I.ok
  have hfr : X.A.frames = some (X.env :: X.outer) := by rw [ok.frames, hs]
  have notFr : ∀ {B h : Heap} {a : Addr} {o : Obj} {vs : Array Value}, h.FunFrames B (X.env :: X.outer) → h.get? a = some o → o.data = .fields vs → a ∉ frs (X.env :: X.outer) := fun {B h a o vs} ff e dd hm => by
    obtain ⟨_, o', e', hnf⟩ := ff.mem hm
    rw [e] at e'; cases e'
    exact hnf _ dd
  have flyOn : ∀ {a : Addr} {B : Heap} {sI s' : Shared} {σ' : L2.St} {H' : Hp} {cls : Value} {d : Option Addr} {h3 : Heap}, Inv X pins σ' H' sI → (∀ b o, sI.heap.get? b = some o → b ∉ frs X.stack → B.get? b = some o) → sI.heap.UpToSlots h3 →
      HandSPX.FlyingZ B (X.env :: X.outer) a (Zc cls d) h3 → H' a = none → s'.os = sI.os → AllBare s'.gens → Wout cls d σ' H' → wpAny (model X.prog X.w) X.A (handleBy (.ref a) X.env []) (SP X pins D) X.xe { s' with heap := h3 } := by
    intro a B sI s' σ' H' cls d h3 J nb up fl3 na os ag w
    refine wpAny_handleBy_nil ?_
    obtain ⟨k1, k2, k3, oe, vs, T, oT, ts', he, hz, hd, h1, hr⟩ := id fl3
    unfold PySem.passOn
    refine wpAny_bind (wpAny_field he hd h1 ?_)
    rw [if_neg (show ¬ ((Value.ref T == Value.none) = true) from by simp)]
    have fin : wpAny (model X.prog X.w) X.A (setFlight (.ref a) X.env.frame) (fun _ s4 => wpAny (model X.prog X.w) X.A (throw (.ref a) : Sem Flow) (SP X pins D) X.xe s4) X.xe { s' with heap := h3 } := by
      rw [hf]
      refine HandSPX.setFlight_upZ fl3 fun h4 hh4 up4 => wpAny_throw (tk _ _ ?_)
      exact ⟨a, B, sI, pins, σ', H', cls, d, rfl, J, nb, up.trans up4, .inr (.inr (by rw [hs]; exact hh4)), na, os, ag, w⟩
    first
      | exact wpAny_bind (wpAny_pure (wpAny_bind fin))
      | exact wpAny_bind fin
  refine wpAny_Try_except ?_
  refine wpAny_mono ((hb (wAsX X.K c i ts Wout D) (X.pn ++ pins) (fun e s₁ => wpAny (model X.prog X.w) X.A (noteFrame e X.env) (fun _ s₂ => wpAny (model X.prog X.w) X.A (setFlight e none) (fun _ s₃ =>
    wpAny (model X.prog X.w) X.A (handleBy e X.env [.ExceptHandler (some (.Name x np)) (some n) (b₀ :: suite) pos']) (SP X pins D) X.xe s₃) X.xe s₂) X.xe s₁) (fun u s' xx => ?_) PassesOwn.looking).run [] s σ H D (I.toTry _) h) (fun f s1 hsp => ?_) (fun e s1 he => he)
  · obtain ⟨a, B, sI, pins', σ', H', cls, d, rfl, J', nb, up, sky, na, os, ag, b, hb1, hyes, hno⟩ := xx
    have J : Inv X pins σ' H' sI := J'.ofTry ok
    have sky' : Sky B (X.env :: X.outer) a (L2N.Zn cls d) X.env.locals s'.heap := by rw [← hs]; exact sky
    show wpAny (model X.prog X.w) X.A (noteFrame (.ref a) X.env) _ _ _
    refine L2N.Sky.land L2N.Zn.steady hfr hf sky' fun h3 fl3 up3 => ?_
    have J3 : Inv X pins σ' H' { s' with heap := h3 } := J.landed nb fl3.1 (up.trans up3) os ag
    obtain ⟨oe3, vs3, he3, hz3, hd3⟩ := fl3.there
    have nfr : a ∉ frs (X.env :: X.outer) := notFr fl3.2.2.1 he3 hd3
    have nL : a ≠ X.env.locals := fun z => nfr (List.mem_filterMap.mpr ⟨X.env, List.mem_cons_self, by rw [hf, z]⟩)
    have nF : a ∉ X.fs := fun hm => by
      obtain ⟨e, he, q⟩ := List.mem_filterMap.mp hm
      exact nfr (List.mem_filterMap.mpr ⟨e, List.mem_cons_of_mem _ he, q⟩)
    have S3 := J3.suite he3 hd3 na nL nF
    refine wpAny_handleBy_cons (codeAny_handlers_test ?_) (by intro q; cases q)
    have LT : PySem.W.Looks (model X.prog X.w) h3 (typeOf (.ref a)) cls := fun A Q E s k q => wpAny_typeOf_ref (k _ _ he3) (by rw [hz3.1]; exact q)
    have LM := PySem.W.exm_one (M := model X.prog X.w) (J3.kIn) LT hb1
    have test : ∀ {Q : Value → Shared → Prop} {E : Value → Shared → Prop}, Q c { s' with heap := h3 } → wpAny (model X.prog X.w) (X.A.mark (some (.ref a))) (eval (.Name x np) X.env) Q E { s' with heap := h3 } := fun {Q E} q => by
      obtain ⟨hg, hdbg, hm | ⟨hm, hv, hnn⟩⟩ := hc
      · exact ld_glob (X := X.suite a ((a, oe3) :: (X.pn ++ pins))) S3 hg hm q hdbg
      · exact ld_blt (X := X.suite a ((a, oe3) :: (X.pn ++ pins))) S3 hg hm hv q hnn hdbg
    refine test (LM.here ?_)
    cases b with
    | true =>
      refine codeAny_handlers_suite_as ?_
      refine HandSPX.lands_againZ fl3 fun h4 fl4 up4 => ?_
      have J4 : Inv X pins σ' H' { s' with heap := h4 } := J.landed nb fl4.1 ((up.trans up3).trans up4) os ag
      obtain ⟨oe4, vs4, he4, hz4, hd4⟩ := fl4.there
      have S4 := J4.suite he4 hd4 na nL nF
      refine store_ok (X := X.suite a ((a, oe4) :: (X.pn ++ pins))) (v := .ref a) S4 hN hi (.inl hln) rfl (fun s5 S5 => ?_) (.inr hln)
      have hot : L2H.Hot1 (X.A.mark (some (.ref a))) (a, oe4) := ⟨rfl, vs4, hd4, hz4.2.2 vs4 hd4⟩
      refine wpAny_mono ((hsu a oe4 cls d (X.pn ++ pins) (XE (L2H.suiteX X a ((a, oe4) :: (X.pn ++ pins))) (fun cls d σ H => Wout cls d (σ.set i Option.none) H)) hz4 ⟨_, hd4⟩ (fun u2 s2 x2 => ?_) hot).run [] s5 _ H' _ ((L2H.suiteX_of S5).wish _) (hyes rfl a na)) (fun f s6 hsp => ?_) (fun e6 s6 z => ?_)
      · obtain ⟨a2, B2, sI2, pn2, σ2, H2, cls2, d2, e2, I2, nb2, up2, sky2, na2, os2, ag2, w2⟩ := x2
        exact ⟨a2, B2, sI2, pn2, σ2, H2, cls2, d2, e2, I2.unwish, nb2, up2, sky2, na2, os2, ag2, w2⟩
      · match f, hsp with
        | .next, ⟨σ6, H6, S6, q6⟩ => exact gone_ok (L2H.unsuiteX S6.unwish ok) hN hi hln fun s7 J7 => ⟨_, _, J7, q6⟩
        | .ret u, ⟨_, _, _, _, _, z⟩ => exact z.elim
        | .brk, ⟨_, _, _, z⟩ => exact z.elim
        | .cont, ⟨_, _, _, z⟩ => exact z.elim
      · exact suite_off (W' := Wout) hs hf hex hN hi hln ok hfr z (fun _ _ _ _ w => w) fun s7 x7 => hpa (some (.ref a)) _ s7 (tk _ _ x7)
    | false =>
    refine ?_
    show wpAny _ X.A (handleBy (.ref a) X.env []) _ _ _
    exact flyOn J nb (up.trans up3) ⟨fl3.1, fl3.2.1, fl3.2.2.1, by
      obtain ⟨oe, vs, T, oT, ts', he, hz, hd, h1, hr⟩ := fl3.2.2.2
      exact ⟨oe, vs, T, oT, ts', he, hz.zc, hd, h1, hr⟩⟩ na os ag (hno rfl)
  · cases f with
    | next =>
      obtain ⟨σ', H', J', q⟩ := hsp
      exact wpAny_execs_nil ⟨σ', H', J'.ofTry ok, q⟩
    | brk =>
      obtain ⟨σ', H', J', q⟩ := hsp
      exact ⟨σ', H', J'.ofTry ok, q⟩
    | cont =>
      obtain ⟨σ', H', J', q⟩ := hsp
      exact ⟨σ', H', J'.ofTry ok, q⟩
    | ret u =>
      obtain ⟨v, σ', H', J', r, q⟩ := hsp
      exact ⟨v, σ', H', J'.ofTry ok, r, q⟩
end

/-! ### errors without an __init__, raised and caught -/
section
variable {X : Cx}
/-- C(), C an error's class without an __init__ of its own -/
theorem pmk_own0N {C : Addr} {bmB : List Value} {B newId initId : String} {x : Str} {p pos : Pos} (F : ExcBaseFacts B newId initId bmB) (q : PySem.W.excIn X.K C bmB newId = true) (gC : X.mg x = some (.ref C)) (kC : PySem.W.keepIn X.K (.ref C) = true) (r : Raises X (.ref C)) (hg : Gl X x)
    (hdb : (x == ("__debug__" : Str)) = false := by decide) : L2N.PMk X (.Call (.Name x p) [] [] pos) (fun _ H Q => Q (.ref C) Option.none H) := by
  intro pins s σ H Q I h
  refine wpAny_Call_Name_kw (ld_glob I hg gC ?_ hdb)
  refine PySem.W.callWith_K0 I.kIn kC ?_
  obtain ⟨bm, N, nm, qn, bs, hdct, sn, sub, ab, col, dd, k0, k1, k2, k3, k5, mN, hC, hN, hni, T⟩ := exc_obj I.kIn q
  exact wpAny_call_exc_subT F T hC hN hni (fun h' e hm => L2N.mk_of I hm r h (I.hok.gone hm.new)) (Nat.zero_le _)
/-- isinstance(e, c) of an error without attributes -/
def rIsP0 (K : PySem.W.Frag) (a : Addr) (cls : Value) (dd : Option Addr) : List V → Hp → VK → Prop := fun xs H Q => ∃ (C : Addr) (c : V) (cv : Value) (b : Bool), xs = [.ref a, c] ∧ cls = .ref C ∧ dd = Option.none ∧ ErrC K C ∧ (∀ u, RelV c u → u = cv) ∧ PySem.W.kitOne K (.ref C) cv = some b ∧ Q (.bl b) H
theorem call_isP0 (K : PySem.W.Frag) (hK : X.K = K) {a : Addr} {oe : Obj} {cls : Value} {dd : Option Addr} (hp : (a, oe) ∈ X.pn) (hz : Zc cls dd oe) (hf : ∃ vs, oe.data = .fields vs) : CallR X (.builtin "isinstance") (rIsP0 K a cls dd) := by
  subst hK
  intro pins s σ H xs us Q I r h
  obtain ⟨C, c, cv, b, rfl, rfl, rfl, T, hc, k, q⟩ := h
  obtain ⟨u1, u2, rfl, r1, r2⟩ := vals2 r
  obtain rfl : u1 = Value.ref a := r1
  have e2 := hc _ r2
  subst e2
  obtain ⟨vs, h3⟩ := hf
  have J : PySem.W.InstAt s.heap a oe C Option.none := ⟨(I.pin (a, oe) (List.mem_append_left _ hp)).1, hz.1, by unfold PySem.W.notCls; rw [h3] <;> rfl, by rw [hz.2]; trivial⟩
  exact PySem.W.kia_one (PySem.W.kitx_exc T.cl T.ga T.gg T.ex T.ha T.hn T.ht T.hm) I.kIn J k (fun z => nomatch z) fun tk => ⟨.bl b, H, I.kept (t' := tk) fun _ _ z => z, rfl, q⟩
/-- o.m(), what it may let out as the names stand -/
def tMethRS0 (C : Addr) (m : Str) (sp : Sp) (E : L2.St → XK) (ta : TE) : TE := fun σ H Q => ta σ H fun x H1 => ∃ a dx fs, x = .ref a ∧ H1 a = some (.ins C dx fs) ∧ fs.lookup m = Option.none ∧ sp [x] H1 Q (E σ)
theorem pe_methRS0 {CX : CXT} {k : Nat} {C g : Addr} {sp : Sp} {o : Expr} {m : Str} {ta : TE} {pos apos : Pos} {E : L2.St → XK} {pl : Sem Bool} (he : PE X o ta) (c : Cls X.K C) (hm : Meth X.K C m g) (F : FnR X.prog X.w X.K X.mg X.base CX k g sp) (hr : Room k X.A) (hx : ∀ σ, PassesAt CX X σ (E σ))
    (ht : eval (.Call (.Attribute o m apos) [] [] pos) X.env = (do
      let ov ← eval o X.env
      standAt apos.atName
      let (f, first) ← holding [ov] (getMethod ov m pl)
      callWith pos f first (backTo pos (starEach [] X.env)) (backToKw pos (keywordEach [] X.env))) := by rfl) :
    PE X (.Call (.Attribute o m apos) [] [] pos) (tMethRS0 C m sp E ta) := by
  refine ⟨fun pins s σ H Q I h => ?_⟩
  refine PySem.W.methodCall_KW (pl := pl) (thn (he.run pins s σ H _ I h) fun u s1 ⟨x, H1, I1, rx, a, dx, fs, ex, ea, l, q⟩ => ?_) ht
  subst ex
  obtain rfl : u = Value.ref a := rx
  refine getmeth_ok I1 ea c hm l ?_
  refine PySem.W.callWith_K0 (first := [.ref a]) I1.kIn hm.kp (wpAny_call (codeAny_mono (F X.A X.stack s1 H1 [.ref a] [.ref a] Q (E σ) hr I1.env0 (.cons rfl .nil) q) fun r s' hq => ?_))
  match r, hq with
  | .error e, hq => exact hx σ pins H1 s1 e s' I1 hq
  | .ok (.ret u), hq => exact I1.after hq
end

/-! ### xs[lo:] = ys -/
section
variable {prog : Program} {w : World} {A : Around} {E : Value → Shared → Prop} {s : Shared}
theorem bounds_tail {a n : Nat} (ha : a ≤ n) : PySem.sliceBounds (some (a : Int)) Option.none Option.none n = ((a : Int), (n : Int), 1) := by
  unfold PySem.sliceBounds
  have h1 : ¬ ((a : Int) < 0) := by omega
  simp only [Option.getD_none, h1, if_false, show (1 : Int) > 0 by decide, if_true]
  congr 1
  omega
set_option maxRecDepth 100000 in
theorem setItem_tail {l b sl : Addr} {items new : Array Value} {n n2 : Nat} {vl : Value} {a : Nat} {Q : Unit → Shared → Prop}
    (e : s.heap.get? l = some { cls := .type "list", data := .seq items n }) (e2 : s.heap.get? b = some { cls := .type "list", data := .seq new n2 }) (hne : l ≠ b)
    (hs : s.heap.IsSliceOf sl vl .none .none) (pl : IsPart vl (some (a : Int))) (ha : a ≤ items.size) (hsz : items.size + new.size ≤ sizeLine)
    (h : Q () { s with heap := s.heap.update l (Obj.mapSeq fun xs => xs.extract 0 a ++ new ++ xs.extract items.size xs.size) }) : wpAny (model prog w) A (setItem (.ref l) (.ref sl) (.ref b)) Q E s := by
  obtain ⟨os, hos, hcs, hds⟩ := id hs
  have tS : s.TypeIs (.ref sl) "slice" := ⟨os, hos, hcs⟩
  have tL := (PySem.IsL.isList e).typeIs
  have hb := PySem.IsL.isList e2
  have ns : Builtin.List.listSameRef (.ref l) (.ref b) = false := beq_eq_false_iff_ne.mpr hne
  have hm : (max (a : Int) (items.size : Int)).toNat = items.size := by omega
  have hz2 : ((fun xs : Array Value => xs.extract 0 a ++ new ++ xs.extract items.size xs.size) items).size ≤ sizeLine + 1 := by
    simp only [Array.size_append, Array.size_extract]
    omega
  unfold setItem
  refine wpAny_holding ?_
  try refine wpAny_bind (wpAny_pure ?_)
  refine wpAny_bind (wpAny_sequenceKey tL (by decide) ?_)
  refine wpAny_bind (wpAny_callSpecial?_slot (name := Str.ofString "__setitem__") tL PySem.F.slot_list_setitem (wpAny_call_entry PySem.F.slot_list_setitem tL PySem.F.entry_list_setitem ?_ (PySem.F.args_list_setitem_3 _ _ _)))
  show wpAny _ _ (Builtin.List.listSubscript? (.ref sl) >>= _) _ _ s
  unfold Builtin.List.listSubscript?
  refine wpAny_bind (wpAny_bind (wpAny_specialOf tS slice_no_index ?_))
  simp only [Option.isNone_none, if_true]
  refine wpAny_pure ?_
  show wpAny _ _ (typeOf (.ref sl) >>= _) _ _ s
  refine wpAny_bind (wpAny_typeOf tS ?_)
  rw [if_neg (by decide), listSliceParts_eq]
  refine wpAny_bind (wpAny_bind (wpAny_field hos hds (x := .none) rfl (wpAny_bind (wpAny_listPart .none ?_))))
  rw [if_neg (show ¬ ((rawPart Option.none == rawInt 0) = true) from Bool.false_ne_true)]
  refine wpAny_bind (wpAny_field hos hds (x := vl) rfl (wpAny_bind (wpAny_listPart pl ?_)))
  refine wpAny_bind (wpAny_field hos hds (x := .none) rfl (wpAny_bind (wpAny_listPart .none (wpAny_pure ?_))))
  simp only [ns, Bool.false_eq_true, if_false]
  refine wpAny_bind (m := Builtin.List.listAllItems (.ref b) "must assign iterable to extended slice") ?_
  unfold Builtin.List.listAllItems
  refine wpAny_bind (wpAny_typeOf hb.typeIs ?_)
  simp only [beq_self_eq_true, Bool.true_or, if_true]
  unfold Builtin.List.listItems
  refine wpAny_bind (wpAny_seqItems e2 rfl (wpAny_pure ?_))
  refine wpAny_bind (wpAny_bind (wpAny_seqItems e rfl (wpAny_pure ?_)))
  refine wpAny_bind (wpAny_of_eq ((sliceIndices_raw (some (a : Int)) Option.none Option.none items.size (by simp)).trans (congrArg (pure : Int × Int × Int → Sem (Int × Int × Int)) (bounds_tail ha))) ?_)
  show wpAny _ _ (if ((1 : Int) == 1) = true then _ else _) _ _ s
  rw [if_pos (by decide)]
  refine wpAny_bind (wpAny_rule ?_)
  simp only [notLongL hsz, Bool.false_eq_true, if_false]
  try refine wpAny_bind (wpAny_pure ?_)
  show wpAny _ _ (updateSeq l (fun xs => xs.extract 0 ((a : Int)).toNat ++ new ++ xs.extract (max (a : Int) (items.size : Int)).toNat xs.size) >>= _) _ _ s
  rw [hm, Int.toNat_natCast]
  refine wpAny_bind (wpAny_updateSeq (hz := Nat.le_trans (Nat.le_add_right _ _) hsz) (_hz' := hz2) e rfl ?_)
  refine wpAny_bind (wpAny_letGo ?_)
  first
    | exact wpAny_bind (wpAny_pure (wpAny_pure ⟨.none, rfl, wpAny_pure h⟩))
    | exact wpAny_pure ⟨.none, rfl, wpAny_pure h⟩
end
section
variable {X : Cx} {o lo : Expr} {to tl : TE} {pos p2 : Pos}
def gTail (to tl : TE) : TG := fun v σ H Q => to σ H fun o H1 => tl σ H1 fun i H2 => ∃ (l b : Addr) (xs ys : List V) (a : Nat), o = .ref l ∧ v = .ref b ∧ i = .int (a : Nat) ∧ H2 l = some (.lst xs) ∧ H2 b = some (.lst ys) ∧ l ≠ b ∧ a ≤ xs.length ∧ xs.length + ys.length ≤ sizeLine ∧ Q σ (upd H2 l (.lst (xs.take a ++ ys)))
theorem pg_tail (ho : PE X o to) (hl : PE X lo tl)
    (ha : ∀ v, assign (.Subscript o (.Slice (some lo) Option.none Option.none p2) pos) X.env v = (do
      let ov ← holding [v] (eval o X.env)
      let iv ← holding [v, ov] (eval (.Slice (some lo) Option.none Option.none p2) X.env)
      standAt pos
      holding [v, ov, iv] (setItem ov iv v)
      release [v, ov, iv] []) := by intro _; rfl) : PG X (.Subscript o (.Slice (some lo) Option.none Option.none p2) pos) (gTail to tl) := by
  refine ⟨fun pins s σ H v u Q I r h => ?_⟩
  rw [ha]
  refine wpAny_bind (wpAny_holding (thn (ho.run pins s σ H _ I h) fun ov s1 ⟨x, H1, I1, r1, q1⟩ => ?_))
  refine wpAny_bind (wpAny_holding (wpAny_Slice (thn (hl.run pins s1 σ H1 _ I1 q1) fun vl s2 ⟨y, H2, I2, r2, l, b, xs, ys, a, ex, ev, ey, hL, hB, hne, hal, hz, q⟩ => ?_)))
  rw [evalPart_none]
  refine wpAny_pure (wpAny_pure ?_)
  subst ex ev ey
  obtain ⟨tt, rfl⟩ := r2
  obtain rfl : ov = Value.ref l := r1
  obtain rfl : u = Value.ref b := r
  have I4 : Inv X pins σ H2 { s2 with heap := s2.heap.push { cls := .type "slice", data := .fields #[.int (a : Nat) tt, .none, .none] } } := I2.kept (t' := s2.toks) fun _ _ q => Heap.get?_push_of_some _ q
  refine wpAny_bind (wpAny_standAt (wpAny_bind (wpAny_holding ?_)))
  obtain ⟨_, its, n, r3, hl3, e3⟩ := I4.lstM hL
  obtain ⟨_, its2, n2, r4, hl4, e4⟩ := I4.lstM hB
  refine setItem_tail (a := a) e3 e4 hne (Heap.IsSliceOf.new ..) (.int _ _) (by rw [List.size_toArray]; omega) (by rw [List.size_toArray, List.size_toArray]; omega) ?_
  refine wpAny_release ⟨σ, _, I4.lset (its' := its.take a ++ its2) (t' := s2.toks) hL e3 ?_ (Vals.append (r3.take _) r4) ?_, q⟩
  · apply Array.toList_inj.mp
    simp
  · rw [List.length_append, List.length_take]
    omega
end

/-- what the text has of NoName -/
structure NoN (K : PySem.W.Frag) (mg : Str → Option Value) where
  C : Addr
  f : Addr
  fd : FuncData
  oex : OexC K C
  iC : PySem.W.findIn K (.ref C) "__init__" = some (some (.ref f))
  tI : PySem.W.typeIn K (.ref f) = some (.type "function")
  F : Fun K "__init__" "NoName.__init__" s_NoName_init f fd
  no : PySem.W.findIn K (.ref C) "name" = some Option.none
  m : mg "NoName" = some (.ref C)
theorem ok_noN_init (B : NoN K mg) : FnOk P w K mg base CX0 1 B.f B.fd ["self", "name"] (spInit1 K "name") := by
  refine B.F.ok sc_NoName_init (fun vs H Q E h => ?_) (fun cdv A outer s H vs Q E hr h => ?_)
  · obtain ⟨a, C, v, rfl, _⟩ := h; rfl
  · obtain ⟨a, C, v, rfl, T, no, ha, k⟩ := h
    exact ⟨_, pss_one (ps_ost (pv 0) (pv 1)), _, rfl, _, rfl, a, C, rfl, T, no, .inl ⟨ha, k⟩⟩
theorem b_noN (B : NoN K mg) : Binds K B.fd ["self", "name"] [] := B.F.binds (ps := ["self", "name"]) fun _ _ _ _ _ _ us hl => match us, hl with | [_, _], _ => rfl
theorem pmk_noN {X : Cx} {x : Expr} {te : TE} {p pos : Pos} (B : NoN X.K X.mg) (hr : Room 2 X.A) (hg : Gl X "NoName") (he : PE X x te)
    (hs : starEach (x :: []) X.env = (false, eval x X.env) :: starEach [] X.env := by rfl) (hpl : (backTo pos (starEach [] X.env)).any (·.1) = false := by rfl) : L2N.PMk X (.Call (.Name "NoName" p) [x] [] pos) (tMkO B.C (spInit1 X.K "name") [] (tCons te tNil)) :=
  pmk_oexN (CX := CX0) (dvs := []) (ds := []) B.oex B.iC B.tI (ok_noN_init B) hr (b_noN B) .nil (fun _ _ _ _ _ _ _ z => z.elim) hg B.m (pa_cons he pa_nil hs) (by decide) hs hpl
/-- what the text has of Nothing -/
structure Noth (K : PySem.W.Frag) (mg : Str → Option Value) where
  C : Addr
  ex : PySem.W.excIn K C [.type "ValueError", .type "Exception", .type "BaseException", .type "object"] "ValueError.__new__" = true
  kp : PySem.W.keepIn K (.ref C) = true
  sb : PySem.W.subIn K (.ref C) (.type "BaseException") = some true
  ty : PySem.W.typeIn K (.ref C) = some (.type "type")
  m : mg "Nothing" = some (.ref C)


end
/-- what the top has written -/
structure Txt (K : PySem.W.Frag) (mg : Str → Option Value) where
  a_Wheel : Addr
  a_Exact : Addr
  a_Grid : Addr
  a_Shelf : Addr
  m_Wheel : mg "Wheel" = some (.ref a_Wheel)
  m_Exact : mg "Exact" = some (.ref a_Exact)
  m_Grid : mg "Grid" = some (.ref a_Grid)
  m_Shelf : mg "Shelf" = some (.ref a_Shelf)
  a_is_whole : Addr
  fd_is_whole : FuncData
  F_is_whole : Fun K "is_whole" "is_whole" s_is_whole a_is_whole fd_is_whole
  m_is_whole : mg "is_whole" = some (.ref a_is_whole)
  a_is_between : Addr
  fd_is_between : FuncData
  F_is_between : Fun K "is_between" "is_between" s_is_between a_is_between fd_is_between
  m_is_between : mg "is_between" = some (.ref a_is_between)
  a_is_name : Addr
  fd_is_name : FuncData
  F_is_name : Fun K "is_name" "is_name" s_is_name a_is_name fd_is_name
  m_is_name : mg "is_name" = some (.ref a_is_name)
  a_need_part : Addr
  fd_need_part : FuncData
  F_need_part : Fun K "need_part" "need_part" s_need_part a_need_part fd_need_part
  m_need_part : mg "need_part" = some (.ref a_need_part)
  a_with_item : Addr
  fd_with_item : FuncData
  F_with_item : Fun K "with_item" "with_item" s_with_item a_with_item fd_with_item
  m_with_item : mg "with_item" = some (.ref a_with_item)
  a_with_row : Addr
  fd_with_row : FuncData
  F_with_row : Fun K "with_row" "with_row" s_with_row a_with_row fd_with_row
  m_with_row : mg "with_row" = some (.ref a_with_row)
  a_pen : Addr
  fd_pen : FuncData
  F_pen : Fun K "_law_pen" "_law_pen" s_pen a_pen fd_pen
  m_pen : mg "_law_pen" = some (.ref a_pen)
  a_draw : Addr
  fd_draw : FuncData
  F_draw : Fun K "_law_draw" "_law_draw" s_draw a_draw fd_draw
  m_draw : mg "_law_draw" = some (.ref a_draw)
  a_pick : Addr
  fd_pick : FuncData
  F_pick : Fun K "_law_pick" "_law_pick" s_pick a_pick fd_pick
  m_pick : mg "_law_pick" = some (.ref a_pick)
  a_name : Addr
  fd_name : FuncData
  F_name : Fun K "_law_name" "_law_name" s_name a_name fd_name
  m_name : mg "_law_name" = some (.ref a_name)
  a_state : Addr
  fd_state : FuncData
  F_state : Fun K "_law_state" "_law_state" s_state a_state fd_state
  m_state : mg "_law_state" = some (.ref a_state)
  a_with : Addr
  fd_with : FuncData
  F_with : Fun K "_law_with" "_law_with" s_with a_with fd_with
  m_with : mg "_law_with" = some (.ref a_with)
  a_row : Addr
  fd_row : FuncData
  F_row : Fun K "_law_row" "_law_row" s_row a_row fd_row
  m_row : mg "_law_row" = some (.ref a_row)
  a_deed : Addr
  fd_deed : FuncData
  F_deed : Fun K "_law_deed" "_law_deed" s_deed a_deed fd_deed
  m_deed : mg "_law_deed" = some (.ref a_deed)
  a_step : Addr
  fd_step : FuncData
  F_step : Fun K "_law_step" "_law_step" s_step a_step fd_step
  m_step : mg "_law_step" = some (.ref a_step)
  a_stands : Addr
  fd_stands : FuncData
  F_stands : Fun K "_law_stands" "_law_stands" s_stands a_stands fd_stands
  m_stands : mg "_law_stands" = some (.ref a_stands)
  a_led : Addr
  fd_led : FuncData
  F_led : Fun K "_law_led" "_law_led" s_led a_led fd_led
  m_led : mg "_law_led" = some (.ref a_led)
  a_walked : Addr
  fd_walked : FuncData
  F_walked : Fun K "_law_walked" "_law_walked" s_walked a_walked fd_walked
  m_walked : mg "_law_walked" = some (.ref a_walked)
  a_same_right : Addr
  fd_same_right : FuncData
  F_same_right : Fun K "_law_same_right" "_law_same_right" s_same_right a_same_right fd_same_right
  m_same_right : mg "_law_same_right" = some (.ref a_same_right)
  a_law : Addr
  fd_law : FuncData
  F_law : Fun K "law" "law" s_law a_law fd_law
  m_law : mg "law" = some (.ref a_law)
  a_BadWheel_init : Addr
  fd_BadWheel_init : FuncData
  F_BadWheel_init : Fun K "__init__" "BadWheel.__init__" s_BadWheel_init a_BadWheel_init fd_BadWheel_init
  a_BadShelf_init : Addr
  fd_BadShelf_init : FuncData
  F_BadShelf_init : Fun K "__init__" "BadShelf.__init__" s_BadShelf_init a_BadShelf_init fd_BadShelf_init
  a_BadDeed_init : Addr
  fd_BadDeed_init : FuncData
  F_BadDeed_init : Fun K "__init__" "BadDeed.__init__" s_BadDeed_init a_BadDeed_init fd_BadDeed_init
  a_NoName_init : Addr
  fd_NoName_init : FuncData
  F_NoName_init : Fun K "__init__" "NoName.__init__" s_NoName_init a_NoName_init fd_NoName_init
  a_TooMany_init : Addr
  fd_TooMany_init : FuncData
  F_TooMany_init : Fun K "__init__" "TooMany.__init__" s_TooMany_init a_TooMany_init fd_TooMany_init
  a_Wheel_init : Addr
  fd_Wheel_init : FuncData
  F_Wheel_init : Fun K "__init__" "Wheel.__init__" s_Wheel_init a_Wheel_init fd_Wheel_init
  a_Wheel_str : Addr
  fd_Wheel_str : FuncData
  F_Wheel_str : Fun K "__str__" "Wheel.__str__" s_Wheel_str a_Wheel_str fd_Wheel_str
  a_Exact_init : Addr
  cda_Exact_init : Addr
  cc_Exact_init : Addr
  fd_Exact_init : FuncData
  F_Exact_init : FunS K "__init__" "Exact.__init__" s_Exact_init a_Exact_init cda_Exact_init cc_Exact_init fd_Exact_init
  so_Exact_init : SupK K mg lawFile cda_Exact_init cc_Exact_init a_Exact a_Wheel_init
  a_Grid_init : Addr
  cda_Grid_init : Addr
  cc_Grid_init : Addr
  fd_Grid_init : FuncData
  F_Grid_init : FunS K "__init__" "Grid.__init__" s_Grid_init a_Grid_init cda_Grid_init cc_Grid_init fd_Grid_init
  so_Grid_init : SupK K mg lawFile cda_Grid_init cc_Grid_init a_Grid a_Wheel_init
  a_Shelf_init : Addr
  fd_Shelf_init : FuncData
  F_Shelf_init : Fun K "__init__" "Shelf.__init__" s_Shelf_init a_Shelf_init fd_Shelf_init
  a_Shelf_can_undo : Addr
  fd_Shelf_can_undo : FuncData
  F_Shelf_can_undo : Fun K "can_undo" "Shelf.can_undo" s_Shelf_can_undo a_Shelf_can_undo fd_Shelf_can_undo
  a_Shelf_can_redo : Addr
  fd_Shelf_can_redo : FuncData
  F_Shelf_can_redo : Fun K "can_redo" "Shelf.can_redo" s_Shelf_can_redo a_Shelf_can_redo fd_Shelf_can_redo
  a_Shelf_len : Addr
  fd_Shelf_len : FuncData
  F_Shelf_len : Fun K "__len__" "Shelf.__len__" s_Shelf_len a_Shelf_len fd_Shelf_len
  a_Shelf_iter : Addr
  fd_Shelf_iter : FuncData
  F_Shelf_iter : Fun K "__iter__" "Shelf.__iter__" s_Shelf_iter a_Shelf_iter fd_Shelf_iter
  a_Shelf_contains : Addr
  fd_Shelf_contains : FuncData
  F_Shelf_contains : Fun K "__contains__" "Shelf.__contains__" s_Shelf_contains a_Shelf_contains fd_Shelf_contains
  a_Shelf_getitem : Addr
  fd_Shelf_getitem : FuncData
  F_Shelf_getitem : Fun K "__getitem__" "Shelf.__getitem__" s_Shelf_getitem a_Shelf_getitem fd_Shelf_getitem
  a_Shelf_setitem : Addr
  fd_Shelf_setitem : FuncData
  F_Shelf_setitem : Fun K "__setitem__" "Shelf.__setitem__" s_Shelf_setitem a_Shelf_setitem fd_Shelf_setitem
  a_Shelf_drop : Addr
  fd_Shelf_drop : FuncData
  F_Shelf_drop : Fun K "drop" "Shelf.drop" s_Shelf_drop a_Shelf_drop fd_Shelf_drop
  a_Shelf_stock : Addr
  fd_Shelf_stock : FuncData
  F_Shelf_stock : Fun K "stock" "Shelf.stock" s_Shelf_stock a_Shelf_stock fd_Shelf_stock
  a_Shelf_done : Addr
  fd_Shelf_done : FuncData
  F_Shelf_done : Fun K "_done" "Shelf._done" s_Shelf_done a_Shelf_done fd_Shelf_done
  a_Shelf_hold : Addr
  fd_Shelf_hold : FuncData
  F_Shelf_hold : Fun K "_hold" "Shelf._hold" s_Shelf_hold a_Shelf_hold fd_Shelf_hold
  a_Shelf_undo : Addr
  fd_Shelf_undo : FuncData
  F_Shelf_undo : Fun K "undo" "Shelf.undo" s_Shelf_undo a_Shelf_undo fd_Shelf_undo
  a_Shelf_redo : Addr
  fd_Shelf_redo : FuncData
  F_Shelf_redo : Fun K "redo" "Shelf.redo" s_Shelf_redo a_Shelf_redo fd_Shelf_redo
  a_Shelf_twin : Addr
  fd_Shelf_twin : FuncData
  F_Shelf_twin : Fun K "twin" "Shelf.twin" s_Shelf_twin a_Shelf_twin fd_Shelf_twin
  n_ValueError : mg "ValueError" = none
  n_abs : mg "abs" = none
  n_bool : mg "bool" = none
  n_enumerate : mg "enumerate" = none
  n_int : mg "int" = none
  n_isinstance : mg "isinstance" = none
  n_iter : mg "iter" = none
  n_len : mg "len" = none
  n_list : mg "list" = none
  n_property : mg "property" = none
  n_range : mg "range" = none
  n_repr : mg "repr" = none
  n_sorted : mg "sorted" = none
  n_staticmethod : mg "staticmethod" = none
  n_str : mg "str" = none
  n_super : mg "super" = none
  n_tuple : mg "tuple" = none
  bad : BadW K mg
  bads : BadS K mg
  badd : BadD K mg
  tmany : TooM K mg
  R : Addr
  m_R : mg "ReachError" = some (.ref R)
  u_MP : Value
  m_MP : mg "MOST_PERIOD" = some u_MP
  r_MP : RelV (.int 1000000000000) u_MP
  u_ML : Value
  m_ML : mg "MOST_LETTERS" = some u_ML
  r_ML : RelV (.int 8) u_ML
  u_MN : Value
  m_MN : mg "MOST_NAMES" = some u_MN
  r_MN : RelV (.int 8) u_MN
  u_MQ : Value
  m_MQ : mg "MOST_PRICE" = some u_MQ
  r_MQ : RelV (.int 1000000000000) u_MQ
  scls : Cls K a_Shelf
  smk : Mk K a_Shelf a_Shelf_init
  s_done : Meth K a_Shelf "_done" a_Shelf_done
  s_hold : Meth K a_Shelf "_hold" a_Shelf_hold
  s_stock : Meth K a_Shelf "stock" a_Shelf_stock
  s_undo : Meth K a_Shelf "undo" a_Shelf_undo
  p_can_undo : Addr
  p_can_redo : Addr
  pr_undo : PropOf K a_Shelf "can_undo" p_can_undo a_Shelf_can_undo
  pr_redo : PropOf K a_Shelf "can_redo" p_can_redo a_Shelf_can_redo
  s_na : ∀ y ∈ (["_items", "_names", "_past", "_ahead"] : List Str), NoAttr K a_Shelf y
  fi_in : PySem.W.findIn K (.ref a_Shelf) "__contains__" = some (some (.ref a_Shelf_contains))
  fn_in : PySem.W.isFn K (.ref a_Shelf_contains) = true
  fi_len : PySem.W.findIn K (.ref a_Shelf) "__len__" = some (some (.ref a_Shelf_len))
  fn_len : PySem.W.isFn K (.ref a_Shelf_len) = true
  fi_iter : PySem.W.findIn K (.ref a_Shelf) "__iter__" = some (some (.ref a_Shelf_iter))
  fn_iter : PySem.W.isFn K (.ref a_Shelf_iter) = true
  fi_get : PySem.W.findIn K (.ref a_Shelf) "__getitem__" = some (some (.ref a_Shelf_getitem))
  fn_get : PySem.W.isFn K (.ref a_Shelf_getitem) = true
  non : NoN K mg
  noth : Noth K mg
  s_drop : Meth K a_Shelf "drop" a_Shelf_drop
  s_redo : Meth K a_Shelf "redo" a_Shelf_redo
  s_twin : Meth K a_Shelf "twin" a_Shelf_twin
  fi_set : PySem.W.findIn K (.ref a_Shelf) "__setitem__" = some (some (.ref a_Shelf_setitem))
  fn_set : PySem.W.isFn K (.ref a_Shelf_setitem) = true
  nq_set : PySem.W.noSeq K a_Shelf = true
section
variable {P : Program} {w : World} {K : PySem.W.Frag} {mg : Str → Option Value} {base : Heap}
theorem b_is_whole (T : Txt K mg) : Binds K T.fd_is_whole ["value"] [] := T.F_is_whole.binds (ps := ["value"]) fun _ _ _ _ _ _ us hl => match us, hl with | [_], _ => rfl
theorem b_is_between (T : Txt K mg) : Binds K T.fd_is_between ["value", "low", "high"] [] := T.F_is_between.binds (ps := ["value", "low", "high"]) fun _ _ _ _ _ _ us hl => match us, hl with | [_, _, _], _ => rfl
theorem b_is_name (T : Txt K mg) : Binds K T.fd_is_name ["value"] [] := T.F_is_name.binds (ps := ["value"]) fun _ _ _ _ _ _ us hl => match us, hl with | [_], _ => rfl
theorem b_need_part (T : Txt K mg) : Binds K T.fd_need_part ["value", "least", "part"] [] := T.F_need_part.binds (ps := ["value", "least", "part"]) fun _ _ _ _ _ _ us hl => match us, hl with | [_, _, _], _ => rfl
theorem b_with_item (T : Txt K mg) : Binds K T.fd_with_item ["items", "name", "item"] [] := T.F_with_item.binds (ps := ["items", "name", "item"]) fun _ _ _ _ _ _ us hl => match us, hl with | [_, _, _], _ => rfl
theorem b_with_row (T : Txt K mg) : Binds K T.fd_with_row ["items", "row"] [] := T.F_with_row.binds (ps := ["items", "row"]) fun _ _ _ _ _ _ us hl => match us, hl with | [_, _], _ => rfl
theorem b_pen (T : Txt K mg) : Binds K T.fd_pen ["_law_script"] [] := T.F_pen.binds (ps := ["_law_script"]) fun _ _ _ _ _ _ us hl => match us, hl with | [_], _ => rfl
theorem b_draw (T : Txt K mg) : Binds K T.fd_draw ["_law_pen_here", "_law_many"] [] := T.F_draw.binds (ps := ["_law_pen_here", "_law_many"]) fun _ _ _ _ _ _ us hl => match us, hl with | [_, _], _ => rfl
theorem b_pick (T : Txt K mg) : Binds K T.fd_pick ["_law_pen_here", "_law_some"] [] := T.F_pick.binds (ps := ["_law_pen_here", "_law_some"]) fun _ _ _ _ _ _ us hl => match us, hl with | [_, _], _ => rfl
theorem b_name (T : Txt K mg) : Binds K T.fd_name ["_law_pen_here"] [] := T.F_name.binds (ps := ["_law_pen_here"]) fun _ _ _ _ _ _ us hl => match us, hl with | [_], _ => rfl
theorem b_state (T : Txt K mg) : Binds K T.fd_state ["_law_shelf"] [] := T.F_state.binds (ps := ["_law_shelf"]) fun _ _ _ _ _ _ us hl => match us, hl with | [_], _ => rfl
theorem b_with (T : Txt K mg) : Binds K T.fd_with ["_law_state_here", "_law_row_here"] [] := T.F_with.binds (ps := ["_law_state_here", "_law_row_here"]) fun _ _ _ _ _ _ us hl => match us, hl with | [_, _], _ => rfl
theorem b_row (T : Txt K mg) : Binds K T.fd_row ["_law_pen_here", "_law_names"] [] := T.F_row.binds (ps := ["_law_pen_here", "_law_names"]) fun _ _ _ _ _ _ us hl => match us, hl with | [_, _], _ => rfl
theorem b_deed (T : Txt K mg) : Binds K T.fd_deed ["_law_pen_here", "_law_shelf", "_law_names"] [] := T.F_deed.binds (ps := ["_law_pen_here", "_law_shelf", "_law_names"]) fun _ _ _ _ _ _ us hl => match us, hl with | [_, _, _], _ => rfl
theorem b_step (T : Txt K mg) : Binds K T.fd_step ["_law_shelf", "_law_way"] [] := T.F_step.binds (ps := ["_law_shelf", "_law_way"]) fun _ _ _ _ _ _ us hl => match us, hl with | [_, _], _ => rfl
theorem b_stands (T : Txt K mg) : Binds K T.fd_stands ["_law_shelf", "_law_states", "_law_at"] [] := T.F_stands.binds (ps := ["_law_shelf", "_law_states", "_law_at"]) fun _ _ _ _ _ _ us hl => match us, hl with | [_, _, _], _ => rfl
theorem b_led (T : Txt K mg) : Binds K T.fd_led ["_law_pen_here", "_law_shelf", "_law_names", "_law_states", "_law_at"] [] := T.F_led.binds (ps := ["_law_pen_here", "_law_shelf", "_law_names", "_law_states", "_law_at"]) fun _ _ _ _ _ _ us hl => match us, hl with | [_, _, _, _, _], _ => rfl
theorem b_walked (T : Txt K mg) : Binds K T.fd_walked ["_law_shelf", "_law_states", "_law_at"] [] := T.F_walked.binds (ps := ["_law_shelf", "_law_states", "_law_at"]) fun _ _ _ _ _ _ us hl => match us, hl with | [_, _, _], _ => rfl
theorem b_same_right (T : Txt K mg) : Binds K T.fd_same_right ["_law_shelf"] [] := T.F_same_right.binds (ps := ["_law_shelf"]) fun _ _ _ _ _ _ us hl => match us, hl with | [_], _ => rfl
theorem b_law (T : Txt K mg) : Binds K T.fd_law ["_law_script"] [] := T.F_law.binds (ps := ["_law_script"]) fun _ _ _ _ _ _ us hl => match us, hl with | [_], _ => rfl
theorem b_BadWheel_init (T : Txt K mg) : Binds K T.fd_BadWheel_init ["self", "part"] [] := T.F_BadWheel_init.binds (ps := ["self", "part"]) fun _ _ _ _ _ _ us hl => match us, hl with | [_, _], _ => rfl
theorem b_BadShelf_init (T : Txt K mg) : Binds K T.fd_BadShelf_init ["self", "part"] [] := T.F_BadShelf_init.binds (ps := ["self", "part"]) fun _ _ _ _ _ _ us hl => match us, hl with | [_, _], _ => rfl
theorem b_BadDeed_init (T : Txt K mg) : Binds K T.fd_BadDeed_init ["self", "at"] [] := T.F_BadDeed_init.binds (ps := ["self", "at"]) fun _ _ _ _ _ _ us hl => match us, hl with | [_, _], _ => rfl
theorem b_NoName_init (T : Txt K mg) : Binds K T.fd_NoName_init ["self", "name"] [] := T.F_NoName_init.binds (ps := ["self", "name"]) fun _ _ _ _ _ _ us hl => match us, hl with | [_, _], _ => rfl
theorem b_TooMany_init (T : Txt K mg) : Binds K T.fd_TooMany_init ["self", "what", "most"] [] := T.F_TooMany_init.binds (ps := ["self", "what", "most"]) fun _ _ _ _ _ _ us hl => match us, hl with | [_, _, _], _ => rfl
theorem b_Wheel_init (T : Txt K mg) : Binds K T.fd_Wheel_init ["self", "period", "back", "ahead"] [] := T.F_Wheel_init.binds (ps := ["self", "period", "back", "ahead"]) fun _ _ _ _ _ _ us hl => match us, hl with | [_, _, _, _], _ => rfl
theorem b_Wheel_str (T : Txt K mg) : Binds K T.fd_Wheel_str ["self"] [] := T.F_Wheel_str.binds (ps := ["self"]) fun _ _ _ _ _ _ us hl => match us, hl with | [_], _ => rfl
theorem b_Exact_init (T : Txt K mg) : Binds K T.fd_Exact_init ["self", "period"] [] := T.F_Exact_init.binds (ps := ["self", "period"]) fun _ _ _ _ _ us hl => match us, hl with | [_, _], _ => rfl
theorem b_Grid_init (T : Txt K mg) : Binds K T.fd_Grid_init ["self", "period"] [] := T.F_Grid_init.binds (ps := ["self", "period"]) fun _ _ _ _ _ us hl => match us, hl with | [_, _], _ => rfl
theorem b_Shelf_init (T : Txt K mg) : Binds K T.fd_Shelf_init ["self"] [] := T.F_Shelf_init.binds (ps := ["self"]) fun _ _ _ _ _ _ us hl => match us, hl with | [_], _ => rfl
theorem b_Shelf_can_undo (T : Txt K mg) : Binds K T.fd_Shelf_can_undo ["self"] [] := T.F_Shelf_can_undo.binds (ps := ["self"]) fun _ _ _ _ _ _ us hl => match us, hl with | [_], _ => rfl
theorem b_Shelf_can_redo (T : Txt K mg) : Binds K T.fd_Shelf_can_redo ["self"] [] := T.F_Shelf_can_redo.binds (ps := ["self"]) fun _ _ _ _ _ _ us hl => match us, hl with | [_], _ => rfl
theorem b_Shelf_len (T : Txt K mg) : Binds K T.fd_Shelf_len ["self"] [] := T.F_Shelf_len.binds (ps := ["self"]) fun _ _ _ _ _ _ us hl => match us, hl with | [_], _ => rfl
theorem b_Shelf_iter (T : Txt K mg) : Binds K T.fd_Shelf_iter ["self"] [] := T.F_Shelf_iter.binds (ps := ["self"]) fun _ _ _ _ _ _ us hl => match us, hl with | [_], _ => rfl
theorem b_Shelf_contains (T : Txt K mg) : Binds K T.fd_Shelf_contains ["self", "value"] [] := T.F_Shelf_contains.binds (ps := ["self", "value"]) fun _ _ _ _ _ _ us hl => match us, hl with | [_, _], _ => rfl
theorem b_Shelf_getitem (T : Txt K mg) : Binds K T.fd_Shelf_getitem ["self", "at"] [] := T.F_Shelf_getitem.binds (ps := ["self", "at"]) fun _ _ _ _ _ _ us hl => match us, hl with | [_, _], _ => rfl
theorem b_Shelf_setitem (T : Txt K mg) : Binds K T.fd_Shelf_setitem ["self", "at", "worth"] [] := T.F_Shelf_setitem.binds (ps := ["self", "at", "worth"]) fun _ _ _ _ _ _ us hl => match us, hl with | [_, _, _], _ => rfl
theorem b_Shelf_drop (T : Txt K mg) : Binds K T.fd_Shelf_drop ["self", "name"] [] := T.F_Shelf_drop.binds (ps := ["self", "name"]) fun _ _ _ _ _ _ us hl => match us, hl with | [_, _], _ => rfl
theorem b_Shelf_done (T : Txt K mg) : Binds K T.fd_Shelf_done ["self", "items"] [] := T.F_Shelf_done.binds (ps := ["self", "items"]) fun _ _ _ _ _ _ us hl => match us, hl with | [_, _], _ => rfl
theorem b_Shelf_hold (T : Txt K mg) : Binds K T.fd_Shelf_hold ["self", "items"] [] := T.F_Shelf_hold.binds (ps := ["self", "items"]) fun _ _ _ _ _ _ us hl => match us, hl with | [_, _], _ => rfl
theorem b_Shelf_undo (T : Txt K mg) : Binds K T.fd_Shelf_undo ["self"] [] := T.F_Shelf_undo.binds (ps := ["self"]) fun _ _ _ _ _ _ us hl => match us, hl with | [_], _ => rfl
theorem b_Shelf_redo (T : Txt K mg) : Binds K T.fd_Shelf_redo ["self"] [] := T.F_Shelf_redo.binds (ps := ["self"]) fun _ _ _ _ _ _ us hl => match us, hl with | [_], _ => rfl
theorem b_Shelf_twin (T : Txt K mg) : Binds K T.fd_Shelf_twin ["self"] [] := T.F_Shelf_twin.binds (ps := ["self"]) fun _ _ _ _ _ _ us hl => match us, hl with | [_], _ => rfl

theorem meets_enum1 {v : Value} {o : Obj} {I0 : Heap → Prop} (Bg : Begins v o I0) : Meets (Builtin.«enumerate.__new__» ⟨[.type "enumerate", v], []⟩) (fun _ R s => I0 s.heap ∧ R (.ok (.ret (.ref (s.heap.push o).objs.size))) { s with heap := (s.heap.push o).push { cls := .type "enumerate", data := .fields #[.none, .bool false, .ref s.heap.objs.size, rawInt 0, .none, .none] } }) :=
  .of_wp fun pr wd A R z hz => by
    obtain ⟨g0, gg, dd, k0, os⟩ := z
    obtain ⟨h1, h2⟩ := hz
    have hsub := sub_enumerate
    have it1 : ∀ {A' : Around} {E' : Value → Shared → Prop} {Q' : Value → Shared → Prop}, Q' (.ref g0.objs.size) ⟨g0.push o, gg, dd, k0, os⟩ → wpAny (model pr wd) A' (pyIter v) Q' E' ⟨g0, gg, dd, k0, os⟩ := fun q => Bg.iter pr wd _ _ ⟨g0, gg, dd, k0, os⟩ _ h1 q
    wp_walk using it1
    refine wpAny_stack_any fun _ => wpAny_pure ?_
    split
    · rename_i cc _ _ _ _ _
      cases (cc == Value.type "enumerate") <;> (wp_walk using it1; exact ⟨_, rfl, h2⟩)
    · wp_walk using it1
      exact ⟨_, rfl, h2⟩
theorem call_enum1 {pr : Program} {wd : World} {B : Around} {EE : Value → Shared → Prop} {z : Shared} {v : Value} {o : Obj} {I0 : Heap → Prop} {Q : Value → Shared → Prop} (Bg : Begins v o I0) (h1 : I0 z.heap)
    (h : ∀ g, IsEnum g (z.heap.objs.size + 1) z.heap.objs.size 0 .none → g.get? z.heap.objs.size = some o → g.objs.size = z.heap.objs.size + 2 → (∀ b u, z.heap.get? b = some u → g.get? b = some u) → Q (.ref (z.heap.objs.size + 1)) { z with heap := g }) :
    wpAny (model pr wd) B (call (.type "enumerate") [v]) Q EE z := by
  refine callType_new F.called_enumerate (by decide) (F.typeCall_enumerate_1 _) (F.newCall_enumerate_1 _) (fun ob => F.args_object_init_2 ob _) F.entry_enumerate_new (meets_enum1 Bg) ⟨h1, ?_⟩
  have s1 : (z.heap.push o).objs.size = z.heap.objs.size + 1 := Heap.size_push ..
  show _ ∧ _
  rw [s1]
  have he : IsEnum ((z.heap.push o).push { cls := .type "enumerate", data := .fields #[.none, .bool false, .ref z.heap.objs.size, rawInt 0, .none, .none] }) (z.heap.objs.size + 1) z.heap.objs.size 0 .none := by
    rw [← s1]
    exact Heap.get?_push_size (z.heap.push o) rfl
  exact ⟨⟨_, he, rfl⟩, h _ he (Heap.get?_push_of_some _ (Heap.get?_push_size _ Bg.free)) (by rw [Heap.size_push, s1]) fun b u q => Heap.get?_push_of_some _ (Heap.get?_push_of_some _ q)⟩
section
variable {X : Cx}
/-- the tuple at a, each item in a new pair -/
def IteT (K : PySem.W.Frag) (a : Addr) : It :=
  ⟨fun i H => ∃ (xs : List V) (x : V), SqT K H a xs ∧ xs[i]? = some x, fun i H v H' => ∃ T x, v = .ref T ∧ H T = Option.none ∧ H' = upd H T (.tup [.int (i : Nat), x]) ∧ ∀ xs, SqT K H a xs → xs[i]? = some x, fun i H => ∃ xs : List V, SqT K H a xs ∧ xs.length ≤ i⟩
theorem turn_enumT {P : Program} {w : World} {K : PySem.W.Frag} {elts : List Expr} {kk : Nat} {tpos : Pos} (a e it : Addr) :
    Turn P w K (.Tuple elts kk tpos) (IteT K a) [e, it] e (fun i h => (∃ old, IsEnum h e it ((i : Nat) : Int) old) ∧ h.IsTupleIter it a i ∧ e ≠ it) where
  mem := by simp
  obj := fun j g st b hb => by
    obtain ⟨⟨old, q⟩, ⟨o, o1, o2, o3⟩, _⟩ := st
    rcases List.mem_cons.mp hb with y | y
    · rw [y]; exact ⟨_, q, fun v z => nomatch z⟩
    · rw [List.mem_singleton.mp y]; exact ⟨o, o1, fun v z => by rw [o3] at z; cases z⟩
  keep := fun j g g' st k => by
    obtain ⟨⟨old, q⟩, hi, ne⟩ := st
    exact ⟨⟨old, k e List.mem_cons_self _ q⟩, hi.at fun o y => k it (by simp) o y, ne⟩
  item := by
    intro X hP hw hK hc i pins s σ H E I hf st hg
    subst hP hw hK
    obtain ⟨⟨old, he⟩, hit, hne⟩ := st
    obtain ⟨xs, x, hq, hx⟩ := hg
    obtain ⟨its, rv, pl, hz⟩ := I.tuple hq
    obtain ⟨u, hu, ru⟩ := rv.get hx
    obtain ⟨oa, oa1, oa2, _⟩ := id pl
    obtain ⟨oi, oi1, oi2, _⟩ := id hit
    have nai : a ≠ it := fun y => by
      rw [y, oi1] at oa1
      cases oa1
      rw [oi2] at oa2
      exact absurd oa2 (by decide)
    have nae : e ≠ a := fun y => by
      rw [y] at he
      have he : s.heap.get? a = _ := he
      rw [oa1] at he
      cases he
      exact absurd (show Value.type "enumerate" = Value.type "tuple" from oa2) (by decide)
    have hel : e < s.heap.objs.size := Heap.lt_size he
    have hil : it < s.heap.objs.size := Heap.lt_size oi1
    have ix : i < its.toArray.size := by rw [List.size_toArray]; exact (List.getElem?_eq_some_iff.mp hu).1
    refine wpAny_pyNext_enum_itemD (Draws.tuple (A := X.A.in1) (I.ok.hd hc) it a nai its.toArray) he ⟨hit, pl⟩ ix hne (fun y => ?_) fun v g k hv ho st2 hT hsz kp => ?_
    · rcases List.mem_cons.mp y with y | y
      · exact hne y
      · exact nae (List.mem_singleton.mp y)
    have ev : v = u := by
      have : its[i]? = some v := by simpa using hv
      rw [hu] at this
      exact (Option.some.inj this).symm
    subst ev
    refine ⟨_, rfl, wpAny_letOwnedTupleGo_enum (s := { s with heap := g, toks := k + 1 }) ho fun g2 he2 sb => ?_⟩
    have hT2 : g2.get? s.heap.objs.size = some { cls := .type "tuple", data := .seq #[.int i k, v] } := (sb.2 _ (Nat.ne_of_gt hel)).trans hT
    have new : ObjOk X.prog X.w (upd H s.heap.objs.size (.tup [.int (i : Nat), x])) g2 s.heap.objs.size (.tup [.int (i : Nat), x]) := ⟨by show 2 ≤ sizeLine; decide, [.int i k, v], .cons ⟨_, rfl⟩ (.cons ru .nil), ⟨_, hT2, rfl, _, rfl⟩⟩
    have keep2 : ∀ b o, b ∉ [e, it] → s.heap.get? b = some o → g2.get? b = some o := fun b o hb q => by
      have b1 : b ≠ e := fun z => hb (by rw [z]; exact List.mem_cons_self)
      have b2 : b ≠ it := fun z => hb (by rw [z]; simp)
      exact (sb.2 b b1).trans (kp b o b1 b2 q)
    have I1 : Inv X pins σ (upd H s.heap.objs.size (.tup [.int (i : Nat), x])) { s with heap := g2, toks := k + 1 } := I.turnedNew (ch := [e, it]) keep2 hf (Nat.le_refl _) new
    have low : ∀ b ∈ [e, it], b < s.heap.objs.size := fun b hb => by
      rcases List.mem_cons.mp hb with z | z
      · rw [z]; exact hel
      · rw [List.mem_singleton.mp z]; exact hil
    refine ⟨.ref s.heap.objs.size, _, I1, rfl, ⟨_, x, rfl, I.hok.fresh (Nat.le_refl _), rfl, fun ys hy => by rw [I.tuple_inj hy hq]; exact hx⟩, ⟨⟨v, ?_⟩, st2.1.at fun o q => (sb.2 it (Ne.symm hne)).trans q, hne⟩, fun b hb => ?_⟩
    · rw [show ((i + 1 : Nat) : Int) = (i : Int) + 1 by omega]
      exact he2
    · rw [upd_ne (Nat.ne_of_lt (low b hb))]
      exact (hf b hb).1
  done := by
    intro X hP hw hK hc i pins s σ H E I hf st hg
    subst hP hw hK
    obtain ⟨⟨old, he⟩, hit, hne⟩ := st
    obtain ⟨xs, hq, hx⟩ := hg
    obtain ⟨its, rv, pl, hz⟩ := I.tuple hq
    obtain ⟨f0, f1, f2, f3, f4, f5⟩ := hf it (by simp)
    have none_at : its.toArray[i]? = Option.none := by
      have : its.length ≤ i := by rw [← rv.length]; exact hx
      simpa using this
    have hTy : s.TypeIs (.ref e) "enumerate" := ⟨_, he, rfl⟩
    unfold pyNext
    refine wpAny_bind (wpAny_attempt (wpAny_callSpecial?_slot (name := Str.ofString "__next__") hTy F.slot_enumerate_next ?_))
    refine wpAny_call_entry F.slot_enumerate_next hTy F.entry_enumerate_next ?_ (F.args_enumerate_next_1 _)
    show wpAny _ _ (field (.ref e) 2 >>= _) _ _ _
    refine wpAny_bind (wpAny_field he rfl (x := .ref it) rfl (wpAny_bind (wpAny_nextOf_tuple_end (A := X.A.in1) (I.ok.hd hc) hit pl none_at fun g x eg hx2 => ?_)))
    obtain ⟨ox, ox1, ox2⟩ := hx2
    exact wpAny_bind (wpAny_isInstance (T := "StopIteration") (b := true) ⟨ox, ox1, ox2⟩ isSubtype_stop (wpAny_pure ⟨rfl, I.turned (t' := s.toks) (fun b o hb q => eg b o hb q) f0 f1 f3 f4 f5⟩))
  self := fun A i s Q E st h => by
    obtain ⟨⟨_, he⟩, _⟩ := st
    exact wpAny_pyIter_enum he h
/-- enumerate of a list or of a tuple, walked -/
def iEnum2 (K : PySem.W.Frag) (ta : TA) : TI := fun σ H R => ta σ H fun vs H1 => ∃ a xs, vs = [.ref a] ∧ ((SqL K H1 a xs ∧ R (Ite K a) H1) ∨ (SqT K H1 a xs ∧ R (IteT K a) H1))
theorem pi_enum2 {e : Expr} {ta : TA} {p pos tpos : Pos} {elts : List Expr} {kk : Nat} (hg : Gl X "enumerate") (hm : X.mg "enumerate" = Option.none) (ha : PA X [e] ta) (hs : starEach [e] X.env = [(false, eval e X.env)] := by rfl) : PI X (.Tuple elts kk tpos) (.Call (.Name "enumerate" p) [e] [] pos) (iEnum2 X.K ta) := by
  refine ⟨fun pins s σ H R I h => Call_ (ld_blt I hg hm boot_enumerate (PyProof.Rows.callWith_type1 (thn (ha.run pos pins s σ H _ I h) fun us s1 ⟨vs, H1, I1, r1, q1⟩ => ?_) hs rfl))⟩
  obtain ⟨a, xs, ev, q⟩ := q1
  subst ev
  obtain rfl := Vals.ref1 r1
  have fresh2 : ∀ b ∈ [s1.heap.objs.size + 1, s1.heap.objs.size], FpOk X pins H1 b := fun b hb => by
    have le : s1.heap.objs.size ≤ b := by
      rcases List.mem_cons.mp hb with z | z
      · rw [z]; exact Nat.le_succ _
      · rw [List.mem_singleton.mp z]; exact Nat.le_refl _
    exact I1.fpOk le (I1.hok.fresh le)
  rcases q with ⟨hq, q⟩ | ⟨hq, q⟩
  · obtain ⟨its, rv, pl, hz⟩ := I1.list hq
    refine call_enum1 (begins_list a its.toArray) pl.isList fun g he hj hsz kp => wpAny_pyIter_enum he ?_
    exact ⟨s1.heap.objs.size + 1, [s1.heap.objs.size + 1, s1.heap.objs.size], _, _, H1, rfl, I1.kept (t' := s1.toks) kp, turn_enum a (s1.heap.objs.size + 1) s1.heap.objs.size, ⟨⟨.none, he⟩, ⟨_, hj, rfl, rfl⟩, Nat.succ_ne_self _⟩, fresh2, q⟩
  · obtain ⟨its, rv, pl, hz⟩ := I1.tuple hq
    refine call_enum1 (begins_tuple a its.toArray) pl fun g he hj hsz kp => wpAny_pyIter_enum he ?_
    exact ⟨s1.heap.objs.size + 1, [s1.heap.objs.size + 1, s1.heap.objs.size], _, _, H1, rfl, I1.kept (t' := s1.toks) kp, turn_enumT a (s1.heap.objs.size + 1) s1.heap.objs.size, ⟨⟨.none, he⟩, ⟨_, hj, rfl, rfl⟩, Nat.succ_ne_self _⟩, fresh2, q⟩
end

theorem for_enumT {K : PySem.W.Frag} {a : Addr} {xs : List V} {g : TG} {tb : TS} {D : Ends} {σ : L2.St} {H : Hp} (Pv : Nat → L2.St → Hp → Prop) (h0 : Pv 0 σ H) (hl : ∀ i σ H, i ≤ xs.length → Pv i σ H → SqT K H a xs)
    (hs : ∀ i x σ H T, xs[i]? = some x → Pv i σ H → H T = Option.none → g (.ref T) σ (upd H T (.tup [.int (i : Nat), x])) fun σ2 H2 => tb { nx := Pv (i + 1), rt := D.rt, bk := D.nx, ct := Pv (i + 1) } σ2 H2) (hd : ∀ σ H, Pv xs.length σ H → D.nx σ H) :
    ∃ W : Nat → Nat → L2.St → Hp → Prop, (∃ m, W 0 m σ H) ∧ ∀ i m σ H, W i m σ H →
      ((IteT K a).stop i H ∧ D.nx σ H) ∨ ((IteT K a).go i H ∧ ∃ N : L2.St → Hp → Prop, (∀ σ' H', N σ' H' → ∃ m', m' < m ∧ W (i + 1) m' σ' H') ∧ ∀ x H', (IteT K a).yld i H x H' → g x σ H' fun σ2 H2 => tb { nx := N, rt := D.rt, bk := D.nx, ct := N } σ2 H2) := by
  refine ⟨fun i m σ H => m = xs.length - i ∧ i ≤ xs.length ∧ Pv i σ H, ⟨xs.length, by simp, Nat.zero_le _, h0⟩, ?_⟩
  rintro i m σ H ⟨rfl, hi, p⟩
  have q := hl i σ H hi p
  by_cases hlt : i < xs.length
  · refine .inr ⟨⟨xs, xs[i], q, by simp [hlt]⟩, Pv (i + 1), fun σ' H' p' => ⟨xs.length - (i + 1), by omega, rfl, hlt, p'⟩, fun x H' y => ?_⟩
    obtain ⟨T, z, rfl, hT, rfl, hz⟩ := y
    exact hs i z σ H T (hz xs q) p hT
  · have e : i = xs.length := by omega
    subst e
    exact .inl ⟨⟨xs, q, Nat.le_refl _⟩, hd σ H p⟩

/-! ### own words while an error is handled: len, not in, x[k], properties; the error that is handled, its own dict -/
section
variable {X : Cx} {k : Nat} {C f : Addr} {fd : FuncData} {ps : List Str} {sp : Sp}
theorem roomH_in1 {A : Around} (r : L2H.RoomH (k + 1) A) : L2H.RoomH k A.in1 := ⟨by have := r.dp; show A.depth + 3 * k + 5 < _; omega, by have := r.un; show A.units + 1 + 16 * k + 200 < _; omega⟩
theorem run_fnHA {A' : Around} {pins : List (Addr × Obj)} {σ : L2.St} {H : Hp} {s : Shared} {Q : VK} {us : List Value} {vs : List V} (F : L2H.FnH X.prog X.w X.K X.mg X.base CX0 k f fd ps sp) (hr : L2H.RoomH k A') (hA : ∀ {s : Shared} {H : Hp}, Env0 X.prog X.w X.K X.mg X.base X.A X.stack s H → Env0 X.prog X.w X.K X.mg X.base A' X.stack s H) (hh : A'.handled = X.A.handled) (hc : L2H.HotC X) (hb : Binds X.K fd ps [])
    (I : Inv X pins σ H s) (r : Vals vs us) (h : sp vs H Q E0) : wpAny (model X.prog X.w) A' (call (.ref f) us) (EP X pins σ Q) X.xe s := by
  obtain ⟨p, ⟨hot1, hot2⟩, hp⟩ := hc
  have hl : us.length = ps.length := by rw [← r.length]; exact F.len _ _ _ _ h
  have b := hb s us I.kIn (by rw [List.append_nil]; exact hl)
  rw [List.append_nil] at b
  have P1 := I.pin p (List.mem_append_left _ hp)
  have hpin : L2H.PinOk X.stack H s p := ⟨P1.1, P1.2.1, fun hm => (List.mem_cons.mp (I.stkSub p.1 hm)).elim P1.2.2.1 P1.2.2.2.1, P1.2.2.2.2⟩
  refine wpAny_call (codeAny_mono (F.run A' X.stack s H ⟨us, []⟩ us vs Q E0 p hr ⟨hh.trans hot1, hot2⟩ hpin (hA I.env0) b r h) fun r s' hq => ?_)
  cases r with
  | error e => exact hq.elim
  | ok fl =>
    cases fl with
    | ret u => exact I.after hq
    | next => exact False.elim hq
    | brk => exact False.elim hq
    | cont => exact False.elim hq
theorem call_lenH (F : L2H.FnH X.prog X.w X.K X.mg X.base CX0 k f fd ps sp) (hr : L2H.RoomH (k + 1) X.A) (hc : L2H.HotC X) (hb : Binds X.K fd ps []) (hs : PySem.W.findIn X.K (.ref C) "__len__" = some (some (.ref f))) (hf : PySem.W.isFn X.K (.ref f) = true) : CallR X (.builtin "len") (rLenO C sp E0) := by
  intro pins s σ H xs us Q I r h
  obtain ⟨a, dx, fs, rfl, ha, q⟩ := h
  obtain ⟨u, rfl, ru⟩ := vals1 r
  obtain rfl : u = Value.ref a := ru
  obtain ⟨o, od, J⟩ := ins_at I ha
  obtain ⟨m, hF⟩ := I.fr
  refine PySem.W.len_K hF I.ok.mod.kin J hs hf (thn (run_fnHA (A' := X.A.in1) (us := [.ref a]) (vs := [.ref a]) F (roomH_in1 hr) (fun e => e.in1) rfl hc hb I (.cons rfl .nil) q) fun v s1 z => ?_)
  obtain ⟨w', H1, I1, rw1, n, rfl, h0, h1, q1⟩ := z
  obtain ⟨t, rfl⟩ := rw1
  exact ⟨⟨h0, h1⟩, .int n, H1, I1.tok _, ⟨_, rfl⟩, q1⟩
theorem op_notInH (F : L2H.FnH X.prog X.w X.K X.mg X.base CX0 k f fd ps sp) (hr : L2H.RoomH k X.A) (hc : L2H.HotC X) (hb : Binds X.K fd ps []) (hs : PySem.W.findIn X.K (.ref C) "__contains__" = some (some (.ref f))) (hf : PySem.W.isFn X.K (.ref f) = true) : OpR X (compareOp .NotIn) (rNotInO C sp E0) := by
  intro pins s σ H x y v u Q I rx ry h
  obtain ⟨a, dx, fs, rfl, ha, q⟩ := h
  obtain rfl : u = Value.ref a := ry
  obtain ⟨o, od, J⟩ := ins_at I ha
  obtain ⟨m, hF⟩ := I.fr
  refine PySem.W.notIn_K hF I.ok.mod.kin J hs hf (thn (run_fnHA (A' := X.A) (us := [.ref a, v]) (vs := [.ref a, x]) F hr (fun e => e) rfl hc hb I (.cons rfl (.cons rx .nil)) q) fun r s1 z => ?_)
  obtain ⟨w, H1, I1, rw1, b, rfl, q1⟩ := z
  cases rw1
  exact wpAny_truthy_bool ⟨.bl (!b), H1, I1, rfl, q1⟩
theorem pe_ixH {a b : Expr} {ta tb : TE} {pos : Pos} (F : L2H.FnH X.prog X.w X.K X.mg X.base CX0 k f fd ps sp) (hr : L2H.RoomH (k + 1) X.A) (hc : L2H.HotC X) (hb : Binds X.K fd ps []) (hs : PySem.W.findIn X.K (.ref C) "__getitem__" = some (some (.ref f))) (hf : PySem.W.fnIn X.K f = true) (hfn : PySem.W.isFn X.K (.ref f) = true)
    (ha : PE X a ta) (hi : PE X b tb) (hsl : ∀ o i, subscripted b true o i = runValue (.builtin "lifetime.subscript" ⟨[o, i], []⟩) := by intros; rfl) : PE X (.Subscript a b pos) (tOp (rIxO C sp E0) ta tb) := by
  refine ⟨fun pins s σ H Q I h => PyProof.Rows.Subscript_ (thn (ha.run pins s σ H _ I h) fun v s1 z => ?_)⟩
  obtain ⟨x, H1, I1, rx, h1⟩ := z
  refine thn (hi.run pins s1 σ H1 _ I1 h1) fun u s2 z => ?_
  obtain ⟨y, H2, I2, ry, q, dx, fs, rfl, ea, h2⟩ := z
  obtain rfl : v = Value.ref q := rx
  obtain ⟨o, od, J⟩ := ins_at I2 ea
  obtain ⟨m, hF⟩ := I2.fr
  exact PySem.W.sub_K hF I2.ok.mod.kin J hs hf hfn (run_fnHA (A' := X.A.in1) (us := [.ref q, u]) (vs := [.ref q, y]) F (roomH_in1 hr) (fun e => e.in1) rfl hc hb I2 (.cons rfl (.cons ry .nil)) h2) (hsl _ _)
/-- the same, the class of whose instance is read under a K that is given -/
theorem pe_ixOK {a b : Expr} {ta tb : TE} {pos : Pos} {CX : CXT} {E : XK} (K : PySem.W.Frag) (hK : X.K = K) (F : FnOk X.prog X.w X.K X.mg X.base CX k f fd ps sp) (hr : Room (k + 1) X.A) (hb : Binds X.K fd ps []) (hx : Passes CX X E) (hs : PySem.W.findIn K (.ref C) "__getitem__" = some (some (.ref f))) (hf : PySem.W.fnIn K f = true) (hfn : PySem.W.isFn K (.ref f) = true)
    (ha : PE X a ta) (hi : PE X b tb) (hsl : ∀ o i, subscripted b true o i = runValue (.builtin "lifetime.subscript" ⟨[o, i], []⟩) := by intros; rfl) : PE X (.Subscript a b pos) (tOp (rIxO C sp E) ta tb) := by
  subst hK
  exact pe_ixO F hr hb hx hs hf hfn ha hi hsl
theorem pe_propH {x : Str} {e : Expr} {pos : Pos} {ta : TE} (he : PE X e ta) (p : Addr) (F : L2H.FnH X.prog X.w X.K X.mg X.base CX0 k f fd ps sp) (hr : L2H.RoomH (k + 1) X.A) (hc : L2H.HotC X) (hb : Binds X.K fd ps [])
    (hab : attributeBase e x X.env (eval e X.env) = eval e X.env) : PE X (.Attribute e x pos) (tPropW X.K x p f sp [] E0 ta) := by
  refine ⟨fun pins s σ H Q I h => ?_⟩
  refine attr_of hab (thn (he.run pins s σ H _ I h) fun u s1 ⟨y, H1, I1, rx, a, C, dx, fs, ex, ea, c, hp, q⟩ => ?_)
  subst ex
  obtain rfl : u = Value.ref a := rx
  obtain ⟨mA, O, _, _, _, _⟩ := ins_get I1.hok ea
  obtain ⟨od, J, _⟩ := O.look
  obtain ⟨rest, hrec⟩ := hp.rec_
  have I2 := I1.tok (s1.toks + 1)
  have hcc : (PySem.W.clsIn X.K C).isSome = true := by
    obtain ⟨cd, hc, _⟩ := PySem.W.any_some c.hd
    rw [hc]
    rfl
  obtain ⟨p', ⟨hot1, hot2⟩, hp'⟩ := hc
  have hl : ([Value.ref a] : List Value).length = ps.length := by rw [← F.len _ _ _ _ q]; rfl
  have b := hb { s1 with toks := s1.toks + 1 } [.ref a] I2.kIn (by rw [List.append_nil]; exact hl)
  rw [List.append_nil] at b
  have P1 := I2.pin p' (List.mem_append_left _ hp')
  have hpin : L2H.PinOk X.stack H1 { s1 with toks := s1.toks + 1 } p' := ⟨P1.1, P1.2.1, fun hm => (List.mem_cons.mp (I2.stkSub p'.1 hm)).elim P1.2.2.1 P1.2.2.2.1, P1.2.2.2.2⟩
  refine PySem.W.get_bind I1.kIn J (PySem.W.plainGet_of (c.get x)).1 (PySem.W.findObj_data hcc hp.at_ hp.get hp.tak) (PySem.W.plainGet_of (c.get x)).2 (wpAny_call (PySem.W.prop_get (s := { s1 with toks := s1.toks + 1 }) I1.kIn hrec ?_))
  refine codeAny_mono (F.run X.A.in1 X.stack { s1 with toks := s1.toks + 1 } H1 ⟨[.ref a], []⟩ [.ref a] [.ref a] Q E0 p' (roomH_in1 hr) ⟨hot1, hot2⟩ hpin I2.env0.in1 b (.cons rfl .nil) q) fun r s' hq => ?_
  cases r with
  | error er => exact hq.elim
  | ok fl =>
    cases fl with
    | ret u =>
      obtain ⟨v, H', I3, rv, q3⟩ := I2.after hq
      show wpAny _ _ (handedOut u) _ _ _
      rw [PySem.W.handedOut_of (handed_of rv)]
      exact wpAny_pure ⟨v, H', I3, rv, q3⟩
    | next => exact False.elim hq
    | brk => exact False.elim hq
    | cont => exact False.elim hq
/-- the error that is handled: its class, its dict -/
theorem XP_inst {p : Addr × Obj} {pins : List (Addr × Obj)} {σ : L2.St} {H : Hp} {s : Shared} {C d : Addr} {fs : List (Str × V)} (I : Inv X pins σ H s) (hp : p ∈ X.pn) (hz : Zc (.ref C) (some d) p.2) (hf : ∃ vs, p.2.data = .fields vs) (ed : H d = some (.xd fs)) :
    ∃ (od : Obj), PySem.W.InstAt s.heap p.1 p.2 C (some od) ∧ ∃ mA : Str → Option Value, (∀ f, RelO (fs.lookup f) (mA f)) ∧ ∀ f : Str, PySem.W.lookIn f od = some (mA f) := by
  obtain ⟨vs, h3⟩ := hf
  have h1 := (I.pin p (List.mem_append_left _ hp)).1
  obtain ⟨mA, hns, hr⟩ := (show ObjOk X.prog X.w H s.heap d (.xd fs) from I.hok d _ ed)
  obtain ⟨od, ho, hl⟩ := lookIn_ns hns
  exact ⟨od, ⟨h1, hz.1, by unfold PySem.W.notCls; rw [h3] <;> rfl, by rw [hz.2]; exact ho⟩, mA, hr, hl⟩
def rIsP (K : PySem.W.Frag) (a : Addr) (cls : Value) (dd : Option Addr) : List V → Hp → VK → Prop := fun xs H Q => ∃ (C d : Addr) (fs : List (Str × V)) (c : V) (cv : Value) (b : Bool), xs = [.ref a, c] ∧ cls = .ref C ∧ dd = some d ∧ H d = some (.xd fs) ∧ ErrC K C ∧ (∀ u, RelV c u → u = cv) ∧ PySem.W.kitOne K (.ref C) cv = some b ∧ Q (.bl b) H
theorem call_isP {p : Addr × Obj} {cls : Value} {dd : Option Addr} (hp : p ∈ X.pn) (hz : Zc cls dd p.2) (hf : ∃ vs, p.2.data = .fields vs) : CallR X (.builtin "isinstance") (rIsP X.K p.1 cls dd) := by
  intro pins s σ H xs us Q I r h
  obtain ⟨C, d, fs, c, cv, b, rfl, rfl, rfl, ed, T, hc, k, q⟩ := h
  obtain ⟨u1, u2, rfl, r1, r2⟩ := vals2 r
  obtain rfl : u1 = Value.ref p.1 := r1
  have e2 := hc _ r2
  subst e2
  obtain ⟨od, J, _⟩ := XP_inst I hp hz hf ed
  exact PySem.W.kia_one (PySem.W.kitx_exc T.cl T.ga T.gg T.ex T.ha T.hn T.ht T.hm) I.kIn J k (fun z => nomatch z) fun tk => ⟨.bl b, H, I.kept (t' := tk) fun _ _ z => z, rfl, q⟩
def tFldP (K : PySem.W.Frag) (a : Addr) (cls : Value) (dd : Option Addr) (f : Str) (te : TE) : TE := fun σ H Q => te σ H fun x H1 => ∃ (C d : Addr) (fs : List (Str × V)) (v : V), x = .ref a ∧ cls = .ref C ∧ dd = some d ∧ H1 d = some (.xd fs) ∧ ErrC K C ∧ PySem.W.findIn K (.ref C) f = some Option.none ∧ fs.lookup f = some v ∧ Q v H1
theorem pe_fldP {p : Addr × Obj} {cls : Value} {dd : Option Addr} {e : Expr} {te : TE} {f : Str} {pos : Pos} (hp : p ∈ X.pn) (hz : Zc cls dd p.2) (hf : ∃ vs, p.2.data = .fields vs) (he : PE X e te) (hb : attributeBase e f X.env (eval e X.env) = eval e X.env := by rfl) : PE X (.Attribute e f pos) (tFldP X.K p.1 cls dd f te) := by
  refine ⟨fun pins s σ H Q I h => attr_of hb (thn (he.run pins s σ H _ I h) fun u s1 hh => ?_)⟩
  obtain ⟨y, H1, I1, ry, C, d, fs, v, rfl, rfl, rfl, ed, T, no, l, q⟩ := hh
  obtain rfl : u = Value.ref p.1 := ry
  obtain ⟨od, J, mA, hr, hl⟩ := XP_inst I1 hp hz hf ed
  obtain ⟨u, hu, ru⟩ := RelO.some_of (v := v) (o := mA f) (by rw [← l]; exact hr f)
  exact HandSPX.exc_get I1.kIn J T.ga T.gg T.ex (PySem.W.findObj_own T.hd no rfl (by rw [hl, hu])) (handed_of ru) ⟨v, H1, I1.tok _, ru, q⟩
end

/-! ### sorted of rows of two texts and an integer -/
/-- a row: where it stands, its texts, its integer -/
abbrev RowT := Addr × Str × Str × Int
def rowD (r : RowT) : PyData := .tuple [.str r.2.1, .str r.2.2.1, .int r.2.2.2]
def RowAt (H : Hp) (r : RowT) : Prop := H r.1 = some (.tup [.str r.2.1, .str r.2.2.1, .int r.2.2.2])
def rowLe : RowT → RowT → Bool := PySem.W.dataLe false rowD
theorem each_refs : ∀ (rs : List RowT) (us : List Value), Vals (rs.map fun r => V.ref r.1) us → PySem.W.EachIs (fun (v : Value) (b : RowT) => v = .ref b.1) us rs
  | [], [], _ => .nil
  | _ :: rs, _ :: us, .cons r t => .cons r (each_refs rs us t)
theorem refs_each : ∀ {rs : List RowT} {us : List Value}, PySem.W.EachIs (fun (v : Value) (b : RowT) => v = .ref b.1) us rs → Vals (rs.map fun r => V.ref r.1) us
  | _, _, .nil => .nil
  | _, _, .cons e t => .cons e (refs_each t)
def rSortedR (K : PySem.W.Frag) : List V → Hp → VK → Prop := fun vs H Q => ∃ (a : Addr) (rs : List RowT), vs = [V.ref a] ∧ SqL K H a (rs.map fun r => V.ref r.1) ∧ (∀ r ∈ rs, RowAt H r) ∧
  ∀ p, H p = Option.none → Q (.ref p) (upd H p (.lst ((rs.mergeSort rowLe).map fun r => V.ref r.1)))
theorem cr_sortedR {X : Cx} (hu : X.A.units + 64 < cLine) : CallR X (.builtin "sorted") (rSortedR X.K) := by
  intro pins s σ H vs us Q I r h
  obtain ⟨a, rs, rfl, hs, hr, q⟩ := h
  obtain ⟨its, rv, hl, hz⟩ := I.list hs
  obtain ⟨u, rfl, ru⟩ := vals1 r
  obtain rfl : u = Value.ref a := ru
  have E1 := each_refs rs _ rv
  rw [List.length_map] at hz
  refine PySem.W.sorted_data (bs := rs) (enc := rowD) (R := fun (v : Value) (b : RowT) => v = .ref b.1) hl.isList E1 ?_ (PySem.W.AllAlike.of fun _ _ => rfl) (PySem.W.Sortable.tuples fun b => ⟨_, _, rfl⟩) hz (fun b _ => ?_) fun out hlen hout => ?_
  · have mem : ∀ (rs' : List RowT) (us' : List Value), PySem.W.EachIs (fun (v : Value) (b : RowT) => v = .ref b.1) us' rs' → (∀ r ∈ rs', RowAt H r) → PySem.W.EachIs (fun v b => ∃ as, Reads s.heap v (rowD b) as) us' rs' := by
      intro rs' us' e
      induction e with
      | nil => exact fun _ => .nil
      | @cons v b us2 rs2 e1 _ ih =>
        intro hh
        subst e1
        refine .cons ?_ (ih fun r hr' => hh r (List.mem_cons_of_mem _ hr'))
        obtain ⟨as, z, _⟩ := Dq.reads I (v := .ref b.1) (d := rowD b) (.dp (.tup (SqT.of (hh b List.mem_cons_self)) (.cons (.str _) (.cons (.str _) (.cons (.int _) .nil))))) (u := .ref b.1) rfl
        exact ⟨as, z⟩
    exact mem _ _ E1 hr
  · show X.A.units + 2 + PyData.depth (.tuple [.str _, .str _, .int _]) < cLine
    simp only [PyData.depth, PyData.depthAll]
    have : (max 0 (max 0 (max 0 0)) : Nat) = 0 := by decide
    omega
  · obtain ⟨ep, he'⟩ := PyProof.Rows.sortedAll_at s.heap its out.toArray
    have hlen2 : (((rs.mergeSort rowLe)).map fun r => V.ref r.1).length ≤ sizeLine := by rw [List.length_map, List.length_mergeSort]; exact hz
    exact ⟨.ref _, upd H (s.heap.objs.size + 1) (.lst ((rs.mergeSort rowLe).map fun r => V.ref r.1)), I.laid (t' := s.toks) (fun _ _ => PyProof.Rows.sortedAll_old) (Nat.le_succ _) ⟨hlen2, out, ep, refs_each hout, he'⟩, rfl, q _ (I.hok.fresh (Nat.le_succ _))⟩

/-! ### the shelf's rows in the order of their names -/
abbrev Row := Str × Str × Int
def nkey (r : Row) : List Nat := r.1.cps.toList
theorem str_of_cps {x y : Str} (h : x.cps.toList = y.cps.toList) : x = y := by
  obtain ⟨⟨a⟩⟩ := x
  obtain ⟨⟨b⟩⟩ := y
  simp only at h
  rw [h]
def Strict (l : List Row) : Prop := l.Pairwise fun a b => nkey a < nkey b
theorem strict_uniq : ∀ {l m : List Row}, Strict l → Strict m → (∀ x, x ∈ l ↔ x ∈ m) → l = m
  | [], [], _, _, _ => rfl
  | [], y :: m, _, _, h => absurd ((h y).mpr List.mem_cons_self) List.not_mem_nil
  | x :: l, [], _, _, h => absurd ((h x).mp List.mem_cons_self) List.not_mem_nil
  | x :: l, y :: m, hl, hm, h => by
    obtain ⟨l1, l2⟩ := List.pairwise_cons.mp hl
    obtain ⟨m1, m2⟩ := List.pairwise_cons.mp hm
    have e : x = y := by
      rcases List.mem_cons.mp ((h x).mp List.mem_cons_self) with e | hx
      · exact e
      · rcases List.mem_cons.mp ((h y).mpr List.mem_cons_self) with e | hy
        · exact e.symm
        · exact absurd (l1 y hy) fun z => List.lt_asymm z (m1 x hx)
    subst e
    refine congrArg (x :: ·) (strict_uniq l2 m2 fun z => ⟨fun hz => ?_, fun hz => ?_⟩)
    · rcases List.mem_cons.mp ((h z).mp (List.mem_cons_of_mem _ hz)) with e | q
      · subst e; exact absurd (l1 z hz) (List.lt_irrefl _)
      · exact q
    · rcases List.mem_cons.mp ((h z).mpr (List.mem_cons_of_mem _ hz)) with e | q
      · subst e; exact absurd (m1 z hz) (List.lt_irrefl _)
      · exact q
theorem rowLe_lt {r r' : RowT} (h : rowLe r r' = true) (ne : r.2.1 ≠ r'.2.1) : nkey r.2 < nkey r'.2 := by
  have e : rowLe r r' = !PySem.W.dataLt (rowD r') (rowD r) := rfl
  rw [e] at h
  have e2 : PySem.W.dataLt (rowD r') (rowD r) = PySem.W.dataLt (.str r'.2.1) (.str r.2.1) := by
    unfold rowD
    rw [PySem.W.dataLt_tuple, PySem.W.dataLt_cons (by simp [PySem.W.alike])]
    rw [if_neg]
    simp only [PyData.eqv, beq_iff_eq]
    exact fun z => ne z.symm
  rw [e2, PySem.W.dataLt_str] at h
  have h3 : ¬ r'.2.1.cps.toList < r.2.1.cps.toList := fun z => by rw [decide_eq_true z] at h; cases h
  by_cases h4 : nkey r.2 < nkey r'.2
  · exact h4
  · exact absurd (str_of_cps (List.le_antisymm (List.not_lt.mp h3) (List.not_lt.mp h4))) ne
theorem rowLe_total : PySem.W.TotalLe rowLe := by
  unfold rowLe PySem.W.dataLe
  exact PySem.W.sortLe_total _ _ _
/-- sorted by rowLe, names apart: in the order of the names -/
theorem sort_strict {rs : List RowT} (nd : (rs.map fun r => r.2.1).Nodup) : Strict ((rs.mergeSort rowLe).map (·.2)) := by
  have p := PySem.W.sort_pairwise rowLe_total rs
  have pm : (rs.mergeSort rowLe).Perm rs := List.mergeSort_perm _ _
  have nd2 : ((rs.mergeSort rowLe).map fun r => r.2.1).Nodup := (pm.map _).nodup_iff.mpr nd
  refine List.pairwise_map.mpr ?_
  have nd3 := List.pairwise_map.mp nd2
  exact List.Pairwise.imp₂ (fun _ _ h1 h2 => rowLe_lt h1 h2) p nd3
theorem strict_names {l : List Row} (h : Strict l) : (l.map (·.1)).Nodup := by
  refine List.pairwise_map.mpr (List.Pairwise.imp (fun {a b} (h : nkey a < nkey b) => ?_) h)
  intro e
  unfold nkey at h
  rw [e] at h
  exact List.lt_irrefl _ h
/-- one item of a shelf -/
structure Ent where
  n : Str
  tr : Bool
  p : Int
  b : Int
  a : Int
  pr : Int
def Ent.row (e : Ent) : Row := (e.n, NX.wtext e.tr e.p e.b e.a, e.pr)
/-- in its place, or at the end -/
def putE (es : List Ent) (e : Ent) : List Ent := if (es.any fun x => decide (x.n = e.n)) = true then es.map (fun x => if x.n = e.n then e else x) else es ++ [e]
def hasE (es : List Ent) (n : Str) : Bool := es.any fun x => decide (x.n = n)
theorem hasE_iff {es : List Ent} {n : Str} : hasE es n = true ↔ n ∈ es.map (·.n) := by
  unfold hasE
  rw [List.any_eq_true, List.mem_map]
  exact ⟨fun ⟨x, h1, h2⟩ => ⟨x, h1, of_decide_eq_true h2⟩, fun ⟨x, h1, h2⟩ => ⟨x, h1, decide_eq_true h2⟩⟩
theorem putE_len (es : List Ent) (e : Ent) : (putE es e).length = if hasE es e.n = true then es.length else es.length + 1 := by
  unfold putE hasE
  split <;> simp
theorem putE_names (es : List Ent) (e : Ent) : (putE es e).map (·.n) = if hasE es e.n = true then es.map (·.n) else es.map (·.n) ++ [e.n] := by
  unfold putE hasE
  split
  · rw [List.map_map]
    refine List.map_congr_left fun x _ => ?_
    show (if x.n = e.n then e else x).n = x.n
    split
    · rename_i h; exact h.symm
    · rfl
  · simp
theorem putE_nodup {es : List Ent} {e : Ent} (h : (es.map (·.n)).Nodup) : ((putE es e).map (·.n)).Nodup := by
  rw [putE_names]
  split
  · exact h
  · rename_i q
    refine List.nodup_append.mpr ⟨h, by simp, fun x hx y hy z => ?_⟩
    rw [List.mem_singleton] at hy
    subst hy z
    exact q (hasE_iff.mpr hx)
theorem putE_mem {es : List Ent} {e x : Ent} : x ∈ putE es e ↔ x = e ∨ (x ∈ es ∧ x.n ≠ e.n) := by
  unfold putE
  split
  · rename_i q
    obtain ⟨y, hy, he⟩ := List.any_eq_true.mp q
    have he := of_decide_eq_true he
    rw [List.mem_map]
    constructor
    · rintro ⟨z, hz, rfl⟩
      split
      · exact .inl rfl
      · rename_i h; exact .inr ⟨hz, h⟩
    · rintro (rfl | ⟨h1, h2⟩)
      · exact ⟨y, hy, if_pos he⟩
      · exact ⟨x, h1, if_neg h2⟩
  · rename_i q
    rw [List.mem_append, List.mem_singleton]
    constructor
    · rintro (h | rfl)
      · exact .inr ⟨h, fun z => q (List.any_eq_true.mpr ⟨x, h, decide_eq_true z⟩)⟩
      · exact .inl rfl
    · rintro (rfl | ⟨h1, _⟩)
      · exact .inr rfl
      · exact .inl h1
/-- st is the state of the items es -/
def IsSt (es : List Ent) (st : List Row) : Prop := Strict st ∧ ∀ x, x ∈ st ↔ x ∈ es.map Ent.row
theorem IsSt.uniq {es : List Ent} {st st' : List Row} (h : IsSt es st) (h' : IsSt es st') : st = st' := strict_uniq h.1 h'.1 fun x => (h.2 x).trans (h'.2 x).symm
theorem row_name {es : List Ent} : (es.map Ent.row).map (·.1) = es.map (·.n) := by rw [List.map_map]; rfl
theorem IsSt.names {es : List Ent} {st : List Row} (h : IsSt es st) (n : Str) : n ∈ st.map (·.1) ↔ hasE es n = true := by
  rw [hasE_iff, ← row_name, List.mem_map, List.mem_map]
  exact ⟨fun ⟨x, h1, h2⟩ => ⟨x, (h.2 x).mp h1, h2⟩, fun ⟨x, h1, h2⟩ => ⟨x, (h.2 x).mpr h1, h2⟩⟩
theorem IsSt.len {es : List Ent} {st : List Row} (h : IsSt es st) (nd : (es.map (·.n)).Nodup) : st.length = es.length := by
  have n1 : st.Nodup := List.Pairwise.of_map _ (fun a b h e => h (congrArg _ e)) (strict_names h.1)
  have n2 : (es.map Ent.row).Nodup := by
    have q : ((es.map Ent.row).map (·.1)).Nodup := by rw [row_name]; exact nd
    exact List.Pairwise.of_map _ (fun a b h e => h (congrArg _ e)) q
  have pm : st.Perm (es.map Ent.row) := (List.perm_ext_iff_of_nodup n1 n2).mpr h.2
  rw [pm.length_eq, List.length_map]
/-- the state with a row, made by sorting -/
theorem IsSt.with {es : List Ent} {st : List Row} {e : Ent} {rs : List RowT} (h : IsSt es st) (hr : rs.map (·.2) = st.filter (fun x => decide (x.1 ≠ e.n)) ++ [e.row]) : IsSt (putE es e) ((rs.mergeSort rowLe).map (·.2)) := by
  have pm : (rs.mergeSort rowLe).Perm rs := List.mergeSort_perm _ _
  refine ⟨sort_strict ?_, fun x => ?_⟩
  · have q : (rs.map fun r => r.2.1) = (rs.map (·.2)).map (·.1) := by rw [List.map_map]; rfl
    rw [q, hr, List.map_append]
    refine List.nodup_append.mpr ⟨?_, by simp, fun x hx y hy z => ?_⟩
    · exact ((strict_names h.1).sublist ((List.filter_sublist).map _))
    · rw [List.map_singleton, List.mem_singleton] at hy
      subst hy z
      obtain ⟨r, hr, e2⟩ := List.mem_map.mp hx
      exact of_decide_eq_true (List.mem_filter.mp hr).2 e2
  · rw [(pm.map _).mem_iff, hr, List.mem_append, List.mem_singleton, List.mem_filter, List.mem_map]
    constructor
    · rintro (⟨h1, h2⟩ | rfl)
      · obtain ⟨y, hy, rfl⟩ := List.mem_map.mp ((h.2 x).mp h1)
        exact ⟨y, putE_mem.mpr (.inr ⟨hy, of_decide_eq_true h2⟩), rfl⟩
      · exact ⟨e, putE_mem.mpr (.inl rfl), rfl⟩
    · rintro ⟨y, hy, rfl⟩
      rcases putE_mem.mp hy with rfl | ⟨h1, h2⟩
      · exact .inr rfl
      · exact .inl ⟨(h.2 _).mpr (List.mem_map.mpr ⟨y, h1, rfl⟩), decide_eq_true h2⟩

def spWhole : Sp := fun vs H Q _ => ∃ (v : V) (t : String), vs = [v] ∧ NT H v t ∧ Q (.bl (t == "int")) H
theorem ok_is_whole (T : Txt K mg) : FnOk P w K mg base CX0 1 T.a_is_whole T.fd_is_whole ["value"] spWhole := by
  refine T.F_is_whole.ok sc_is_whole (fun vs H Q E h => ?_) (fun cdv A outer s H vs Q E hr h => ?_)
  · obtain ⟨v, t, rfl, _⟩ := h; rfl
  · obtain ⟨v, t, rfl, ht, k⟩ := h
    obtain ⟨b1, b2, h1, h2, h3⟩ := ht.kit
    refine ⟨_, pss_one (ps_ret (pe_and (pe_callB call_isi (by rfl) T.n_isinstance (by decide +kernel) (pa_cons (pv 0) (pa_cons (pe_bltn (v := .ty "int") (u := .type "int") (by rfl) T.n_int (by decide +kernel) rfl) (pa_nil)))) (pe_one (pe_not (pe_callB call_isi (by rfl) T.n_isinstance (by decide +kernel) (pa_cons (pv 0) (pa_cons (pe_bltn (v := .ty "bool") (u := .type "bool") (by rfl) T.n_bool (by decide +kernel) rfl) (pa_nil)))))))), ?_⟩
    refine ⟨_, rfl, v, .ty "int", .type t, .type "int", b1, rfl, .ty _, ht.ty, kit_ty h1, b1, rfl, ?_⟩
    rw [← h3] at k
    cases b1 with
    | false => exact iteF k
    | true => exact iteT ⟨_, rfl, v, .ty "bool", .type t, .type "bool", b2, rfl, .ty _, ht.ty, kit_ty h2, b2, rfl, k⟩

/-- whether v is an integer between the two -/
def betB (lo hi : Int) : V → Bool
  | .int i => decide (lo ≤ i ∧ i ≤ hi)
  | _ => false
def spBetK : Sp := fun vs H Q _ => ∃ (v : V) (t : String) (lo hi : Int), vs = [v, .int lo, .int hi] ∧ NT H v t ∧ Q (.bl (betB lo hi v)) H
theorem betB_no {H : Hp} {v : V} {t : String} {lo hi : Int} (h : NT H v t) (n : (t == "int") = false) : betB lo hi v = false := by
  cases h <;> first | rfl | cases n
theorem ok_is_between (T : Txt K mg) : FnOk P w K mg base CX0 2 T.a_is_between T.fd_is_between ["value", "low", "high"] spBetK := by
  refine T.F_is_between.ok sc_is_between (fun vs H Q E h => ?_) (fun cdv A outer s H vs Q E hr h => ?_)
  · obtain ⟨v, t, lo, hi, rfl, _⟩ := h; rfl
  · obtain ⟨v, t, lo, hi, rfl, ht, k⟩ := h
    refine ⟨_, pss_one (ps_ret (pe_and (pe_call (ok_is_whole T) (hr.mono (by decide)) rfl T.m_is_whole T.F_is_whole.kp (b_is_whole T) .nil pass0 (pa_cons (pv 0) (pa_nil))) (pe_one (pe_chain op_le op_le (pv 1) (pv 0) (pv 2))))), ?_⟩
    refine ⟨_, rfl, v, t, rfl, ht, (t == "int"), rfl, ?_⟩
    cases e : (t == "int") with
    | false => rw [betB_no ht e] at k; exact iteF k
    | true =>
      obtain ⟨v, rfl⟩ := ht.isInt (beq_iff_eq.mp e)
      refine iteT ⟨_, rfl, _, rfl, _, _, rfl, rfl, _, rfl, ?_⟩
      refine ite2 (fun hc => ?_) (fun hc => ?_)
      · have hc := of_decide_eq_true hc
        refine ⟨_, rfl, _, _, rfl, rfl, ?_⟩
        refine Eq.mpr (congrArg (fun b => Q (V.bl b) _) ?_) k
        show _ = decide _
        rw [decide_eq_decide]
        exact ⟨fun z => ⟨hc, z⟩, fun z => z.2⟩
      · have hc : ¬ lo ≤ v := fun z => hc (decide_eq_true z)
        refine Eq.mpr (congrArg (fun b => Q (V.bl b) _) ?_) k
        exact (decide_eq_false fun z => hc z.1).symm
/-- a part is in order, or BadWheel tells its name -/
def spNeed (C : Addr) : Sp := fun vs H Q E => ∃ (v : V) (t : String) (lo : Int) (pt : Str), vs = [v, .int lo, .str pt] ∧ NT H v t ∧
  if betB lo 1000000000000 v = true then Q .non H else ∀ (d : Addr) (H2 : Hp), Same H H2 → H d = Option.none → H2 d = some (.xd [("part", .str pt)]) → E (.ref C) (some d) H2
theorem ok_need_part (T : Txt K mg) : FnOk P w K mg base (L2.CX P w) 3 T.a_need_part T.fd_need_part ["value", "least", "part"] (spNeed T.bad.C) := by
  refine T.F_need_part.okX sc_need_part (fun vs H Q E h => ?_) (fun cdv A outer s H vs Q E hr h => ?_)
  · obtain ⟨v, t, lo, pt, rfl, _⟩ := h; rfl
  · obtain ⟨v, t, lo, pt, rfl, ht, k⟩ := h
    refine ⟨_, pss_one (ps_if (pt_not (pt_val (pe_call (ok_is_between T) (hr.mono (by decide)) rfl T.m_is_between T.F_is_between.kp (b_is_between T) .nil pass0 (pa_cons (pv 0) (pa_cons (pv 1) (pa_cons (pe_glob (v := .int 1000000000000) rfl T.m_MP T.r_MP) (pa_nil))))))) (pss_one (ps_raise rfl (takes_of rfl rfl rfl rfl) (pmk_badW T.bad (hr.mono (by decide)) rfl (pv 2)))) (pss_nil)), ?_⟩
    refine ⟨_, rfl, _, rfl, v, t, lo, 1000000000000, rfl, ht, _, rfl, ?_⟩
    cases e : betB lo 1000000000000 v with
    | true => rw [e] at k; exact iteF k
    | false =>
      rw [e] at k
      refine iteT ⟨_, rfl, (by show 1 ≤ 1000; decide), fun a ha => badW_fin T.bad ha fun d H2 s2 hd h2 => k d H2 s2 hd h2⟩

/-- an instance with the three parts -/
def WhAt (H : Hp) (C x : Addr) (p b a : Int) : Prop := ∃ dx, H x = some (.ins C dx [("period", .int p), ("back", .int b), ("ahead", .int a)])
theorem WhAt.same {H H' : Hp} {C x : Addr} {p b a : Int} (s : Same H H') (h : WhAt H C x p b a) : WhAt H' C x p b a := h.elim fun dx h => ⟨dx, s _ _ h⟩
/-- what is in order, or the first part that is not -/
def okParts (lo : List Int) (vs : List V) (pts : List Str) : Option Str := ((lo.zip (vs.zip pts)).find? fun q => !betB q.1 1000000000000 q.2.1).map (·.2.2)
/-- what a class of wheels must have -/
structure WCls (K : PySem.W.Frag) (C : Addr) : Prop where
  cls : Cls K C
  na : ∀ y ∈ (["period", "back", "ahead"] : List Str), NoAttr K C y
def ErrP (H : Hp) (C : Addr) (E : XK) (pt : Str) : Prop := ∀ (d : Addr) (H2 : Hp), Same H H2 → H d = Option.none → H2 d = some (.xd [("part", .str pt)]) → E (.ref C) (some d) H2
theorem ErrP.same {H H' : Hp} {C : Addr} {E : XK} {pt : Str} (s : Same H H') (f : ∀ d, H' d = Option.none → H d = Option.none) (h : ErrP H C E pt) : ErrP H' C E pt := fun d H2 s2 hd h2 => h d H2 (s.trans s2) (f d hd) h2
/-- Wheel.__init__, of an instance of any class of wheels -/
def spWheelInit (K : PySem.W.Frag) (B : Addr) : Sp := fun vs H Q E => ∃ (x C dx : Addr) (p b a : V) (tp tb ta : String), vs = [.ref x, p, b, a] ∧ WCls K C ∧ H x = some (.ins C dx []) ∧ NT H p tp ∧ NT H b tb ∧ NT H a ta ∧
  (betB 2 1000000000000 p = false → ErrP H B E "period") ∧
  (betB 2 1000000000000 p = true → betB 0 1000000000000 b = false → ErrP H B E "back") ∧
  (betB 2 1000000000000 p = true → betB 0 1000000000000 b = true → betB 0 1000000000000 a = false → ErrP H B E "ahead") ∧
  (∀ i j k : Int, p = .int i → b = .int j → a = .int k → 2 ≤ i → i ≤ 1000000000000 → 0 ≤ j → j ≤ 1000000000000 → 0 ≤ k → k ≤ 1000000000000 → Q .non (upd H x (.ins C dx [("period", .int i), ("back", .int j), ("ahead", .int k)])))
theorem betB_get {lo hi : Int} {v : V} (h : betB lo hi v = true) : ∃ i, v = .int i ∧ lo ≤ i ∧ i ≤ hi := by
  cases v with
  | int i => exact ⟨i, rfl, of_decide_eq_true h⟩
  | _ => cases h
theorem ok_Wheel_init (T : Txt K mg) : FnOk P w K mg base (L2.CX P w) 4 T.a_Wheel_init T.fd_Wheel_init ["self", "period", "back", "ahead"] (spWheelInit K T.bad.C) := by
  refine T.F_Wheel_init.okX sc_Wheel_init (fun vs H Q E h => ?_) (fun cdv A outer s H vs Q E hr h => ?_)
  · obtain ⟨x, C, dx, p, b, a, tp, tb, ta, rfl, _⟩ := h; rfl
  · obtain ⟨x, C, dx, p, b, a, tp, tb, ta, rfl, cW, hx, hp, hb, ha, e1, e2, e3, k⟩ := h
    refine ⟨_, pss_cons (ps_expr (pe_call (ok_need_part T) (hr.mono (by decide)) rfl T.m_need_part T.F_need_part.kp (b_need_part T) .nil (passes_call (takes_of rfl rfl rfl rfl) (fun _ _ _ _ h => h)) (pa_cons (pv 1) (pa_cons (pe_int) (pa_cons (pe_str) (pa_nil))))))
      (pss_cons (ps_expr (pe_call (ok_need_part T) (hr.mono (by decide)) rfl T.m_need_part T.F_need_part.kp (b_need_part T) .nil (passes_call (takes_of rfl rfl rfl rfl) (fun _ _ _ _ h => h)) (pa_cons (pv 2) (pa_cons (pe_int) (pa_cons (pe_str) (pa_nil))))))
      (pss_cons (ps_expr (pe_call (ok_need_part T) (hr.mono (by decide)) rfl T.m_need_part T.F_need_part.kp (b_need_part T) .nil (passes_call (takes_of rfl rfl rfl rfl) (fun _ _ _ _ h => h)) (pa_cons (pv 3) (pa_cons (pe_int) (pa_cons (pe_str) (pa_nil))))))
      (pss_cons (ps_fld (pv 0) (pv 1) rfl)
      (pss_cons (ps_fld (pv 0) (pv 2) rfl)
      (pss_one (ps_fld (pv 0) (pv 3) rfl)))))), ?_⟩
    refine ⟨_, rfl, p, tp, 2, "period", rfl, hp, ?_⟩
    refine ite2 (fun h1 => ?_) (fun h1 => e1 (Bool.eq_false_iff.mpr h1))
    refine ⟨_, rfl, b, tb, 0, "back", rfl, hb, ?_⟩
    refine ite2 (fun h2 => ?_) (fun h2 => e2 h1 (Bool.eq_false_iff.mpr h2))
    refine ⟨_, rfl, a, ta, 0, "ahead", rfl, ha, ?_⟩
    refine ite2 (fun h3 => ?_) (fun h3 => e3 h1 h2 (Bool.eq_false_iff.mpr h3))
    obtain ⟨i, rfl, i1, i2⟩ := betB_get h1
    obtain ⟨j, rfl, j1, j2⟩ := betB_get h2
    obtain ⟨l, rfl, l1, l2⟩ := betB_get h3
    refine ⟨_, rfl, _, rfl, x, C, dx, _, rfl, hx, cW.cls, cW.na _ (by simp), (by show 0 < 1000; decide), ?_⟩
    refine ⟨_, rfl, _, rfl, x, C, dx, _, rfl, upd_same, cW.cls, cW.na _ (by simp), (by show 1 < 1000; decide), ?_⟩
    refine ⟨_, rfl, _, rfl, x, C, dx, _, rfl, upd_same, cW.cls, cW.na _ (by simp), (by show 2 < 1000; decide), ?_⟩
    refine Eq.mpr (congrArg (Q V.non) ?_) (k i j l rfl rfl rfl i1 i2 j1 j2 l1 l2)
    funext y
    unfold upd
    split <;> rfl

def spOneInit (K : PySem.W.Frag) (B D f2 : Addr) : Sp := fun vs H Q E => ∃ (x C dx : Addr) (p : V) (tp : String), vs = [.ref x, p] ∧ WCls K C ∧ SupAt K C D f2 "__init__" ∧ H x = some (.ins C dx []) ∧ NT H p tp ∧
  (betB 2 1000000000000 p = false → ErrP H B E "period") ∧
  (∀ i : Int, p = .int i → 2 ≤ i → i ≤ 1000000000000 → Q .non (upd H x (.ins C dx [("period", .int i), ("back", .int 0), ("ahead", .int 0)])))
theorem ok_Exact_init (HP : PrF lawFile P) (T : Txt K mg) : FnOk P w K mg base (L2.CX P w) 5 T.a_Exact_init T.fd_Exact_init ["self", "period"] (spOneInit K T.bad.C T.a_Exact T.a_Wheel_init) := by
  refine T.F_Exact_init.okX sc_Exact_init T.so_Exact_init (fun vs H Q E h => ?_) (fun A outer s H vs Q E hr h => ?_)
  · obtain ⟨x, C, dx, p, tp, rfl, _⟩ := h; rfl
  · obtain ⟨x, C, dx, p, tp, rfl, cW, sa, hx, hp, e1, k⟩ := h
    refine ⟨_, psup_super (T.so_Exact_init.of HP T.F_Exact_init rfl) ((ok_Wheel_init T).raw (b_Wheel_init T) .nil) (hr.mono (by decide)) (passes_call (takes_of rfl rfl rfl rfl) (fun _ _ _ _ h => h)) (pa_cons (pv 1) (pa_cons pe_int (pa_cons pe_int pa_nil))) rfl rfl rfl rfl rfl rfl rfl, ?_⟩
    have z0 : betB 0 1000000000000 (.int 0) = true := by decide
    refine ⟨x, C, dx, [], rfl, hx, sa, _, rfl, x, C, dx, p, .int 0, .int 0, tp, "int", "int", rfl, cW, hx, hp, .int _, .int _, e1, fun _ z => absurd (z0.symm.trans z) (by decide), fun _ _ z => absurd (z0.symm.trans z) (by decide), fun i' j' l' q1 q2 q3 i1 i2 _ _ _ _ => ?_⟩
    subst q1
    cases q2; cases q3
    exact k i' rfl i1 i2
theorem ok_Grid_init (HP : PrF lawFile P) (T : Txt K mg) : FnOk P w K mg base (L2.CX P w) 5 T.a_Grid_init T.fd_Grid_init ["self", "period"] (spOneInit K T.bad.C T.a_Grid T.a_Wheel_init) := by
  refine T.F_Grid_init.okX sc_Grid_init T.so_Grid_init (fun vs H Q E h => ?_) (fun A outer s H vs Q E hr h => ?_)
  · obtain ⟨x, C, dx, p, tp, rfl, _⟩ := h; rfl
  · obtain ⟨x, C, dx, p, tp, rfl, cW, sa, hx, hp, e1, k⟩ := h
    refine ⟨_, psup_super (T.so_Grid_init.of HP T.F_Grid_init rfl) ((ok_Wheel_init T).raw (b_Wheel_init T) .nil) (hr.mono (by decide)) (passes_call (takes_of rfl rfl rfl rfl) (fun _ _ _ _ h => h)) (pa_cons (pv 1) (pa_cons pe_int (pa_cons pe_int pa_nil))) rfl rfl rfl rfl rfl rfl rfl, ?_⟩
    have z0 : betB 0 1000000000000 (.int 0) = true := by decide
    refine ⟨x, C, dx, [], rfl, hx, sa, _, rfl, x, C, dx, p, .int 0, .int 0, tp, "int", "int", rfl, cW, hx, hp, .int _, .int _, e1, fun _ z => absurd (z0.symm.trans z) (by decide), fun _ _ z => absurd (z0.symm.trans z) (by decide), fun i' j' l' q1 q2 q3 i1 i2 _ _ _ _ => ?_⟩
    subst q1
    cases q2; cases q3
    exact k i' rfl i1 i2

/-- def f(p1, *v) of the text, which may raise -/
theorem star1_okX {x qual p1 pv : Str} {k : Nat} {st : Stmt} {f : Addr} {fd : FuncData} {N : List Str} {sp : V → List V → Hp → VK → XK → Prop} (F : Fun K x qual st f fd) (S : FnScope N [p1, pv] (defScope st))
    (hb : ∀ (kV doc pm : Value) (an : Option Addr) (cdv ct : Value) (a : Value) (rest : List Value), bindArgs (PySem.W.fnOf x qual (defArgs st) (defBody st) (defScope st) .none kV doc pm an cdv ct) ⟨a :: rest, []⟩ = (newTuple rest >>= fun t => pure [(p1, a), (pv, t)]))
    (go : ∀ (cdv : Value) (A : Around) (outer : List Env) (s : Shared) (H : Hp) (a : V) (vs : List V) (p : Addr) (H0 : Hp) (Q : VK) (E : XK), Room k (A.deeper (envOfC qual (defScope st) s.heap.objs.size f cdv)) → sp a vs H0 Q E → vs.length ≤ sizeLine → H0 p = Option.none → H = upd H0 p (.tup vs) →
      ∃ t, PSs (cxOf (L2.CX P w) P w K mg base N qual (defScope st) f cdv A outer s H E) (defBody st) t ∧ t { nx := fun _ H1 => Q .non H1, rt := Q } (start N [a, V.ref p]) H) :
    FnR P w K mg base (L2.CX P w) (k + 1) f (fun vs H Q E => ∃ a rest, vs = a :: rest ∧ rest.length ≤ sizeLine ∧ sp a rest H Q E) := by
  obtain ⟨oc, od, kV, doc, pm, an, cdv, ct, osl, rfl, lk, hcd⟩ := F.ex
  refine FnR.imp (StX.fn_star (ps := [p1]) (pv := pv) (CX := L2.CX P w) (sp := fun ws H Q E => ∃ (a : V) (vs : List V) (p : Addr) (H0 : Hp), ws = [a, V.ref p] ∧ sp a vs H0 Q E ∧ vs.length ≤ sizeLine ∧ H0 p = Option.none ∧ H = upd H0 p (.tup vs)) lk hcd S StX.cxUp (fun us rest hl => ?_) fun A outer s H vs Q E hr h => ?_) fun vs H Q E h => ?_
  · match us, hl with
    | [a], _ =>
      show bindArgs _ { pos := a :: rest, kw := [] } = _
      rw [hb]
      rfl
  · obtain ⟨a, ws, p, H0, rfl, hs, hl, hp, rfl⟩ := h
    exact go cdv A outer s _ a ws p H0 Q E hr hs hl hp rfl
  · obtain ⟨a, rest, rfl, hl, hs⟩ := h
    exact ⟨[a], rest, rfl, rfl, hl, fun p hp => ⟨a, rest, p, H, rfl, hs, hl, hp, rfl⟩⟩

/-- what is read off a wheel of the class at C -/
structure WPr (T : Txt K mg) (C : Addr) (tr : Bool) : Prop where
  w : WCls K C
  con : ∃ u, Con K C "TRUSTED" (.bl tr) u
/-- what the text has of one class of wheels -/
structure WhC (T : Txt K mg) (C f : Addr) (tr : Bool) : Prop where
  w : WPr T C tr
  ty : ∀ (H : Hp) (a dx : Addr) (fs : List (Str × V)), H a = some (.ins C dx fs) → TyX K H (.ref a) (.ref C)
  wh : PySem.W.kitOne K (.ref C) (.ref T.a_Wheel) = some true
  mkr : Mk K C f
  str : PySem.W.findIn K (.ref C) "__str__" = some (some (.ref T.a_Wheel_str))
/-- what it has of the three -/
structure Whl (T : Txt K mg) : Prop where
  W : WhC T T.a_Wheel T.a_Wheel_init false
  X : WhC T T.a_Exact T.a_Exact_init false
  G : WhC T T.a_Grid T.a_Grid_init true
  sX : SupAt K T.a_Exact T.a_Exact T.a_Wheel_init "__init__"
  sG : SupAt K T.a_Grid T.a_Grid T.a_Wheel_init "__init__"
  fnS : PySem.W.isFn K (.ref T.a_Wheel_str) = true
  no : ∀ t ∈ (["NoneType", "str", "int"] : List String), PySem.W.kitOne K (.type t) (.ref T.a_Wheel) = some false
/-- at y a wheel with these parts, of one of the classes -/
def WhE (T : Txt K mg) (H : Hp) (y : Addr) (tr : Bool) (p b a : Int) : Prop := ∃ C f, WhC T C f tr ∧ WhAt H C y p b a
theorem WhE.same {T : Txt K mg} {H H' : Hp} {y : Addr} {tr : Bool} {p b a : Int} (s : Same H H') (h : WhE T H y tr p b a) : WhE T H' y tr p b a := by
  obtain ⟨C, f, h1, h3⟩ := h
  exact ⟨C, f, h1, h3.same s⟩
theorem mk_same {H : Hp} {x dx C : Addr} {fs : List (Str × V)} (hx : H x = Option.none) (hdx : H dx = Option.none) : Same H (upd (upd (upd H dx (.own x)) x (.ins C dx [])) x (.ins C dx fs)) := fun b o e => by
  rw [upd_ne (ne_of_none e hx), upd_ne (ne_of_none e hx), upd_ne (ne_of_none e hdx)]
  exact e
section
variable {H : Hp} {x dx : Addr} {Qv : VK} {E : XK} {p b a : Int}
theorem okW (T : Txt K mg) (W : Whl T) (hx : H x = Option.none) (hdx : H dx = Option.none) (hp : 2 ≤ p ∧ p ≤ 1000000000000) (hb : 0 ≤ b ∧ b ≤ 1000000000000) (ha : 0 ≤ a ∧ a ≤ 1000000000000) (k : ∀ H', Same H H' → WhAt H' T.a_Wheel x p b a → Qv .non H') :
    spWheelInit K T.bad.C [.ref x, .int p, .int b, .int a] (upd (upd H dx (.own x)) x (.ins T.a_Wheel dx [])) Qv E := by
  refine ⟨x, T.a_Wheel, dx, _, _, _, _, _, _, rfl, W.W.w.w, upd_same, .int _, .int _, .int _, fun z => absurd ((decide_eq_true hp).symm.trans z) (by decide), fun _ z => absurd ((decide_eq_true hb).symm.trans z) (by decide), fun _ _ z => absurd ((decide_eq_true ha).symm.trans z) (by decide), ?_⟩
  intro i j l e1 e2 e3 _ _ _ _ _ _
  cases e1; cases e2; cases e3
  exact k _ (mk_same hx hdx) ⟨dx, upd_same⟩
theorem okX (T : Txt K mg) (W : Whl T) (hx : H x = Option.none) (hdx : H dx = Option.none) (hp : 2 ≤ p ∧ p ≤ 1000000000000) (k : ∀ H', Same H H' → WhAt H' T.a_Exact x p 0 0 → Qv .non H') :
    spOneInit K T.bad.C T.a_Exact T.a_Wheel_init [.ref x, .int p] (upd (upd H dx (.own x)) x (.ins T.a_Exact dx [])) Qv E := by
  refine ⟨x, T.a_Exact, dx, _, _, rfl, W.X.w.w, W.sX, upd_same, .int _, fun z => absurd ((decide_eq_true hp).symm.trans z) (by decide), ?_⟩
  intro i e1 _ _
  cases e1
  exact k _ (mk_same hx hdx) ⟨dx, upd_same⟩
theorem okG (T : Txt K mg) (W : Whl T) (hx : H x = Option.none) (hdx : H dx = Option.none) (hp : 2 ≤ p ∧ p ≤ 1000000000000) (k : ∀ H', Same H H' → WhAt H' T.a_Grid x p 0 0 → Qv .non H') :
    spOneInit K T.bad.C T.a_Grid T.a_Wheel_init [.ref x, .int p] (upd (upd H dx (.own x)) x (.ins T.a_Grid dx [])) Qv E := by
  refine ⟨x, T.a_Grid, dx, _, _, rfl, W.G.w.w, W.sG, upd_same, .int _, fun z => absurd ((decide_eq_true hp).symm.trans z) (by decide), ?_⟩
  intro i e1 _ _
  cases e1
  exact k _ (mk_same hx hdx) ⟨dx, upd_same⟩
end
/-- the parts of a wheel that stands -/
structure Parts (tr : Bool) (p b a : Int) : Prop where
  hp : 2 ≤ p ∧ p ≤ 1000000000000
  hb : 0 ≤ b ∧ b ≤ 1000000000000
  ha : 0 ≤ a ∧ a ≤ 1000000000000
  ht : tr = true → b = 0 ∧ a = 0
theorem slen (a b : Str) : (a ++ b).length = a.length + b.length := by
  show (a.cps ++ b.cps).size = _
  rw [Array.size_append]
  rfl
/-- the text of a wheel, whichever it is -/
def spWheelStr (T : Txt K mg) : Sp := fun vs H Q _ => ∃ (x : Addr) (p b a : Int) (tr : Bool), vs = [.ref x] ∧ WhE T H x tr p b a ∧ Parts tr p b a ∧ Q (.str (NX.wtext tr p b a)) H
theorem ok_Wheel_str (T : Txt K mg) : FnOk P w K mg base CX0 1 T.a_Wheel_str T.fd_Wheel_str ["self"] (spWheelStr T) := by
  refine T.F_Wheel_str.ok sc_Wheel_str (fun vs H Q E h => ?_) (fun cdv A outer s H vs Q E hr h => ?_)
  · obtain ⟨x, p, b, a, tr, rfl, _⟩ := h; rfl
  · obtain ⟨x, p, b, a, tr, rfl, ⟨C, f, cW, dx, hx⟩, pa, k⟩ := h
    obtain ⟨u, hu⟩ := cW.w.con
    refine ⟨_, pss_cons (ps_if (pt_val (pe_con (pv 0) rfl)) (pss_one (ps_ret (pe_joinedT (PJ.cons (pe_str) (PJ.cons (pe_fmt (pe_fld (pv 0) rfl)) (PJ.nil)))))) (pss_nil))
      (pss_one (ps_ret (pe_joinedT (PJ.cons (pe_str) (PJ.cons (pe_fmt (pe_fld (pv 0) rfl)) (PJ.cons (pe_str) (PJ.cons (pe_fmt (pe_fld (pv 0) rfl)) (PJ.cons (pe_str) (PJ.cons (pe_fmt (pe_fld (pv 0) rfl)) (PJ.nil)))))))))), ?_⟩
    have L : ∀ i : Int, 0 ≤ i → i ≤ 1000000000000 → i.natAbs.log2 < 1920 ∧ (Str.ofString (toString i)).length ≤ 13 := fun i h0 h1 => ⟨Nat.lt_trans (PySem.Flt.log2_lt_of (show 0 < 64 by decide) (show i.natAbs < 2 ^ 64 by omega)) (by decide), NX.len_num h0 h1⟩
    obtain ⟨p1, p2⟩ := L p (by have := pa.hp.1; omega) pa.hp.2
    obtain ⟨b1, b2⟩ := L b pa.hb.1 pa.hb.2
    obtain ⟨a1, a2⟩ := L a pa.ha.1 pa.ha.2
    refine ⟨_, rfl, x, C, dx, _, _, u, rfl, hx, cW.w.w.cls, hu, rfl, tr, rfl, ?_⟩
    cases tr with
    | true =>
      refine ⟨_, rfl, (by decide), _, rfl, x, C, dx, _, _, rfl, hx, cW.w.w.cls, cW.w.w.na _ (by simp), rfl, .inr ⟨p, rfl, p1, _, rfl, ?_, ?_⟩⟩
      · rw [slen]
        exact Nat.le_trans (Nat.add_le_add (show _ ≤ 10 by decide) p2) (by decide)
      · show Q (.str (Str.empty ++ "grid " ++ NX.num p)) H
        rw [show (Str.empty ++ ("grid " : Str)) = "grid " by decide]
        exact k
    | false =>
      refine ⟨_, rfl, (by decide), _, rfl, x, C, dx, _, _, rfl, hx, cW.w.w.cls, cW.w.w.na _ (by simp), rfl, .inr ⟨p, rfl, p1, _, rfl, ?_, _, rfl, ?_, _, rfl, x, C, dx, _, _, rfl, hx, cW.w.w.cls, cW.w.w.na _ (by simp), rfl, .inr ⟨b, rfl, b1, _, rfl, ?_, _, rfl, ?_, _, rfl, x, C, dx, _, _, rfl, hx, cW.w.w.cls, cW.w.w.na _ (by simp), rfl, .inr ⟨a, rfl, a1, _, rfl, ?_, ?_⟩⟩⟩⟩
      case refine_6 =>
        show Q (.str (Str.empty ++ "wheel " ++ NX.num p ++ " " ++ NX.num b ++ " " ++ NX.num a)) H
        rw [show (Str.empty ++ ("wheel " : Str)) = "wheel " by decide]
        exact k
      all_goals
        simp only [slen]
        have z1 : ("wheel " : Str).length = 6 := by decide
        have z2 : (" " : Str).length = 1 := by decide
        have z0 : (Str.empty : Str).length = 0 := by decide
        rw [sizeLine_eq]
        omega
theorem str_of {T : Txt K mg} {H : Hp} {y : Addr} {tr : Bool} {p b a : Int} {Q : VK} {E : XK} (h : WhE T H y tr p b a) (pa : Parts tr p b a) (k : Q (.str (NX.wtext tr p b a)) H) : rStrW K T.a_Wheel_str (spWheelStr T) E [.ref y] H Q := by
  obtain ⟨C, f, wc, dx, hx⟩ := id h
  exact ⟨y, C, dx, _, rfl, hx, wc.str, y, p, b, a, tr, rfl, h, pa, _, rfl, k⟩
/-- whether v is a name -/
def nameB : V → Bool
  | .str z => decide (1 ≤ (z.length : Int) ∧ (z.length : Int) ≤ 8) && (Txt.isascii z && (Txt.isalpha z && Txt.islower z))
  | _ => false
def spName : Sp := fun vs H Q _ => ∃ (v : V) (t : String), vs = [v] ∧ NT H v t ∧ (∀ z, v = .str z → z.length ≤ sizeLine) ∧ Q (.bl (nameB v)) H
theorem ok_is_name (T : Txt K mg) : FnOk P w K mg base CX0 1 T.a_is_name T.fd_is_name ["value"] spName := by
  refine T.F_is_name.ok sc_is_name (fun vs H Q E h => ?_) (fun cdv A outer s H vs Q E hr h => ?_)
  · obtain ⟨v, t, rfl, _⟩ := h; rfl
  · obtain ⟨v, t, rfl, ht, hl, k⟩ := h
    refine ⟨_, pss_cons (ps_if (PW.pt (pw_or (pt_not (pt_val (pe_callB call_isi (by rfl) T.n_isinstance (by decide +kernel) (pa_cons (pv 0) (pa_cons (pe_bltn (v := .ty "str") (u := .type "str") (by rfl) T.n_str (by decide +kernel) rfl) (pa_nil)))))) (pw_or1 (pt_not (pt_chain op_le op_le pe_int (pe_callB call_len_str (by rfl) T.n_len (by decide +kernel) (pa_cons (pv 0) (pa_nil))) (pe_glob (v := .int 8) rfl T.m_ML T.r_ML)))))) (pss_one (ps_ret (pe_bl))) (pss_nil))
      (pss_one (ps_ret (pe_and (pe_m0 PySem.F.slot_str_isascii PySem.F.type_str_isascii mt_isascii (pv 0)) (pe_and (pe_m0 PySem.F.slot_str_isalpha PySem.F.type_str_isalpha mt_isalpha (pv 0)) (pe_one (pe_m0 PySem.F.slot_str_islower PySem.F.type_str_islower mt_islower (pv 0))))))), ?_⟩
    have hS : kitB t "str" = some (t == "str") := by cases ht <;> decide +kernel
    refine ⟨_, rfl, v, .ty "str", .type t, .type "str", (t == "str"), rfl, .ty _, ht.ty, kit_ty hS, _, rfl, ?_⟩
    cases e : (t == "str") with
    | false =>
      have : nameB v = false := by cases ht <;> first | rfl | cases e
      rw [this] at k
      exact iteT (iteT k)
    | true =>
      obtain ⟨z, rfl⟩ : ∃ z, v = .str z := by cases ht <;> first | exact ⟨_, rfl⟩ | cases e
      refine iteF ?_
      refine ⟨_, rfl, z, rfl, hl z rfl, _, _, rfl, rfl, ?_⟩
      refine ⟨_, rfl, ?_⟩
      by_cases h1 : (1 : Int) ≤ z.length
      · refine if_true_of (decide_eq_true h1) ⟨_, _, rfl, rfl, _, rfl, ?_⟩
        by_cases h2 : (z.length : Int) ≤ 8
        · refine if_false_of (by rw [decide_eq_true h2]; rfl) ?_
          have hn : nameB (.str z) = (Txt.isascii z && (Txt.isalpha z && Txt.islower z)) := by
            show (decide (1 ≤ (z.length : Int) ∧ (z.length : Int) ≤ 8) && _) = _
            rw [decide_eq_true ⟨h1, h2⟩, Bool.true_and]
          rw [hn] at k
          refine ⟨_, rfl, ⟨z, rfl⟩, z, rfl, rfl, trivial, ?_⟩
          refine ⟨_, rfl, ?_⟩
          cases h3 : Txt.isascii z with
          | false => rw [h3] at k; exact iteF k
          | true =>
            rw [h3, Bool.true_and] at k
            refine iteT ⟨_, rfl, ⟨z, rfl⟩, z, rfl, rfl, trivial, _, rfl, ?_⟩
            cases h4 : Txt.isalpha z with
            | false => rw [h4] at k; exact iteF k
            | true =>
              rw [h4, Bool.true_and] at k
              exact iteT ⟨_, rfl, ⟨z, rfl⟩, z, rfl, rfl, trivial, k⟩
        · refine if_true_of (by rw [decide_eq_false h2]; rfl) ?_
          have hn : nameB (.str z) = false := by
            show (decide (1 ≤ (z.length : Int) ∧ (z.length : Int) ≤ 8) && _) = _
            rw [decide_eq_false fun q => h2 q.2, Bool.false_and]
          rw [hn] at k
          exact k
      · refine if_false_of (decide_eq_false h1) ⟨_, rfl, if_true_of rfl ?_⟩
        have hn : nameB (.str z) = false := by
          show (decide (1 ≤ (z.length : Int) ∧ (z.length : Int) ≤ 8) && _) = _
          rw [decide_eq_false fun q => h1 q.1, Bool.false_and]
        rw [hn] at k
        exact k

/-- one entry of a dict of items -/
structure EntAt (T : Txt K mg) (H : Hp) (kv : Key × V) (e : Ent) : Prop where
  k : kv.1 = .inr e.n
  v : ∃ t y, kv.2 = .ref t ∧ H t = some (.tup [.ref y, .int e.pr]) ∧ WhE T H y e.tr e.p e.b e.a
  pa : Parts e.tr e.p e.b e.a
  pr : 0 ≤ e.pr ∧ e.pr ≤ 1000000000000
  nm : nameB (.str e.n) = true
theorem EntAt.same {T : Txt K mg} {H H' : Hp} (s : Same H H') {kv : Key × V} {e : Ent} (h : EntAt T H kv e) : EntAt T H' kv e := by
  obtain ⟨t, y, h1, h2, h3⟩ := h.v
  exact ⟨h.k, ⟨t, y, h1, s _ _ h2, h3.same s⟩, h.pa, h.pr, h.nm⟩
/-- at d the dict of these items -/
def DictAt (T : Txt K mg) (H : Hp) (d : Addr) (es : List Ent) : Prop := ∃ kvs, H d = some (.dK kvs) ∧ PySem.Paired (EntAt T H) kvs es ∧ (es.map (·.n)).Nodup ∧ es.length ≤ 8
theorem ents_same {T : Txt K mg} {H H' : Hp} (s : Same H H') : ∀ {kvs : List (Key × V)} {es : List Ent}, PySem.Paired (EntAt T H) kvs es → PySem.Paired (EntAt T H') kvs es
  | _, _, .nil => .nil
  | _, _, .cons h t => .cons (h.same s) (ents_same s t)
theorem DictAt.same {T : Txt K mg} {H H' : Hp} {d : Addr} {es : List Ent} (s : Same H H') (h : DictAt T H d es) : DictAt T H' d es := by
  obtain ⟨kvs, h1, h2, h3⟩ := h
  exact ⟨kvs, s _ _ h1, ents_same s h2, h3⟩
theorem units1 {A : Around} (h : A.units + 64 < cLine) : A.units + 1 < cLine := by omega
section
variable {T : Txt K mg} {H : Hp}
theorem ents_none : ∀ {kvs : List (Key × V)} {es : List Ent} {n : Str}, PySem.Paired (EntAt T H) kvs es → hasE es n = false → valV kvs (.inr n) = Option.none
  | _, _, _, .nil, _ => rfl
  | kv :: kvs, e :: es, n, .cons h t, q => by
    unfold hasE at q
    rw [List.any_cons, Bool.or_eq_false_iff] at q
    have ne : ¬ kv.1 = .inr n := fun z => of_decide_eq_false q.1 (by rw [h.k] at z; exact Sum.inr.inj z)
    rw [valV_neg ne]
    exact ents_none t q.2
theorem ents_some : ∀ {kvs : List (Key × V)} {es : List Ent} {n : Str}, PySem.Paired (EntAt T H) kvs es → hasE es n = true → ∃ kv e, e ∈ es ∧ e.n = n ∧ valV kvs (.inr n) = some kv.2 ∧ EntAt T H kv e
  | _, _, _, .nil, q => by cases q
  | kv :: kvs, e :: es, n, .cons h t, q => by
    by_cases z : e.n = n
    · exact ⟨kv, e, List.mem_cons_self, z, valV_pos (by rw [h.k, z]), h⟩
    · unfold hasE at q
      rw [List.any_cons, decide_eq_false z, Bool.false_or] at q
      obtain ⟨kv', e', h1, h2, h3, h4⟩ := ents_some t q
      exact ⟨kv', e', List.mem_cons_of_mem _ h1, h2, by rw [valV_neg (by rw [h.k]; exact fun y => z (Sum.inr.inj y))]; exact h3, h4⟩
theorem ents_keys : ∀ {kvs : List (Key × V)} {es : List Ent}, PySem.Paired (EntAt T H) kvs es → kvs.map (fun kv => kV kv.1) = (es.map (·.n)).map V.str
  | _, _, .nil => rfl
  | kv :: kvs, e :: es, .cons h t => by
    rw [List.map_cons, List.map_cons, List.map_cons, ents_keys t, h.k]
    rfl
theorem ents_any : ∀ {kvs : List (Key × V)} {es : List Ent} {n : Str}, PySem.Paired (EntAt T H) kvs es → (kvs.any fun kv => decide (kv.1 = .inr n)) = hasE es n
  | _, _, _, .nil => rfl
  | kv :: kvs, e :: es, n, .cons h t => by
    unfold hasE
    rw [List.any_cons, List.any_cons, ents_any t, h.k]
    unfold hasE
    congr 1
    rw [decide_eq_decide]
    exact ⟨fun z => Sum.inr.inj z, fun z => by rw [z]⟩
theorem ents_map {e0 : Ent} {v : V} : ∀ {kvs : List (Key × V)} {es : List Ent}, PySem.Paired (EntAt T H) kvs es → EntAt T H (.inr e0.n, v) e0 →
    PySem.Paired (EntAt T H) (kvs.map fun kv => if kv.1 = .inr e0.n then (kv.1, v) else kv) (es.map fun x => if x.n = e0.n then e0 else x)
  | _, _, .nil, _ => .nil
  | kv :: kvs, e :: es, .cons h t, h0 => by
    rw [List.map_cons, List.map_cons]
    refine .cons ?_ (ents_map t h0)
    by_cases z : e.n = e0.n
    · rw [if_pos (by rw [h.k, z]), if_pos z]
      rw [h.k, z]
      exact h0
    · rw [if_neg (by rw [h.k]; exact fun y => z (Sum.inr.inj y)), if_neg z]
      exact h
theorem paired_snoc {α β : Type} {R : α → β → Prop} : ∀ {as : List α} {bs : List β} {a : α} {b : β}, PySem.Paired R as bs → R a b → PySem.Paired R (as ++ [a]) (bs ++ [b])
  | _, _, _, _, .nil, h => .cons h .nil
  | _, _, _, _, .cons x t, h => .cons x (paired_snoc t h)
theorem ents_put {kvs : List (Key × V)} {es : List Ent} {e : Ent} {v : V} (h : PySem.Paired (EntAt T H) kvs es) (h0 : EntAt T H (.inr e.n, v) e) : PySem.Paired (EntAt T H) (putK kvs (.inr e.n) v) (putE es e) := by
  unfold putK putE
  rw [ents_any h]
  show PySem.Paired _ _ (if hasE es e.n = true then _ else _)
  by_cases q : hasE es e.n = true
  · rw [if_pos q, if_pos q]
    exact ents_map h h0
  · rw [if_neg q, if_neg q]
    exact paired_snoc h h0
end
/-- what one row of three is: an item, or none -/
inductive RowP (T : Txt K mg) (H : Hp) : V → V → V → Option Ent → Prop
  | good {y : Addr} (e : Ent) : nameB (.str e.n) = true → WhE T H y e.tr e.p e.b e.a → Parts e.tr e.p e.b e.a → 0 ≤ e.pr ∧ e.pr ≤ 1000000000000 → RowP T H (.str e.n) (.ref y) (.int e.pr) (some e)
  | name {nv wv pv : V} {t : String} : NT H nv t → (∀ z, nv = .str z → z.length ≤ sizeLine) → nameB nv = false → RowP T H nv wv pv Option.none
  | wheel {n : Str} {wv pv : V} {t : String} : nameB (.str n) = true → NT H wv t → t ∈ ["NoneType", "str", "int"] → RowP T H (.str n) wv pv Option.none
  | price {n : Str} {y : Addr} {tr : Bool} {p b a : Int} {pv : V} {t : String} : nameB (.str n) = true → WhE T H y tr p b a → NT H pv t → betB 0 1000000000000 pv = false → RowP T H (.str n) (.ref y) pv Option.none
theorem RowP.same {T : Txt K mg} {H H' : Hp} (s : Same H H') {nv wv pv : V} {o : Option Ent} (h : RowP T H nv wv pv o) : RowP T H' nv wv pv o := by
  cases h with
  | good e h1 h2 h3 h4 => exact .good e h1 (h2.same s) h3 h4
  | name h1 h2 h3 => exact .name (h1.same s) h2 h3
  | wheel h1 h2 h3 => exact .wheel h1 (h2.same s) h3
  | price h1 h2 h3 h4 => exact .price h1 (h2.same s) (h3.same s) h4
/-- an error of the two that a row is refused by -/
def ErrR (T : Txt K mg) (H : Hp) (E : XK) : Prop := ∀ C ∈ [T.bads.C, T.tmany.C], ∀ (dx : Addr) (fs : List (Str × V)) (H2 : Hp), Same H H2 → H dx = Option.none → H2 dx = some (.xd fs) → E (.ref C) (some dx) H2
/-- whether an item finds no place -/
def fullE (es : List Ent) (e : Ent) : Bool := !hasE es e.n && decide (es.length = 8)
theorem name_len {n : Str} (h : nameB (.str n) = true) : 1 ≤ (n.length : Int) ∧ (n.length : Int) ≤ 8 := by
  have h : (decide (1 ≤ (n.length : Int) ∧ (n.length : Int) ≤ 8) && (Txt.isascii n && (Txt.isalpha n && Txt.islower n))) = true := h
  rw [Bool.and_eq_true] at h
  exact of_decide_eq_true h.1
def spWithItem (T : Txt K mg) : Sp := fun vs H Q E => ∃ (d it : Addr) (es : List Ent) (nv wv pc : V) (o : Option Ent), vs = [.ref d, nv, .ref it] ∧ DictAt T H d es ∧ H it = some (.tup [wv, pc]) ∧ RowP T H nv wv pc o ∧
  (o = Option.none → ErrR T H E) ∧ (∀ e, o = some e → fullE es e = true → ErrR T H E) ∧ (∀ e, o = some e → fullE es e = false → ∀ (d' : Addr) (H' : Hp), Same H H' → DictAt T H' d' (putE es e) → Q (.ref d') H')
theorem ok_with_item (HP : PrF lawFile P) (T : Txt K mg) (W : Whl T) : FnOk P w K mg base (L2N.CX P w) 3 T.a_with_item T.fd_with_item ["items", "name", "item"] (spWithItem T) := by
  refine Fun.okN T.F_with_item sc_with_item (fun vs H Q E h => ?_) (fun cdv A outer s H vs Q E hr h => ?_)
  · obtain ⟨d, it, es, nv, wv, pc, o, rfl, _⟩ := h; rfl
  · obtain ⟨d, it, es, nv, wv, pc, o, rfl, hd, hit, hR, k1, k2, k3⟩ := h
    have eS : ∀ {H2 : Hp} {x : V} {a : Addr}, Same H H2 → ErrR T H E → H2 a = Option.none → spInit1 K "part" (.ref a :: ([x] ++ [])) (upd H2 a (exo a T.bads.C Option.none)) (fun v' H3 => v' = .non ∧ ∃ (d : Addr) (fs : List (Str × V)), H3 a = some (exo a T.bads.C (some d)) ∧ H3 d = some (exd d fs) ∧ H2 d = Option.none ∧ E (.ref T.bads.C) (some d) (upd (del H3 a) d (.xd fs))) (fun _ _ _ => False) := fun s2 hE ha =>
      bad_fin1 T.bads.oex T.bads.no ha fun d3 H3 s3 hn h3 => hE _ (by simp) d3 _ H3 (s2.trans s3) (by
        match q : H d3 with
        | Option.none => rfl
        | some o => rw [s2 _ _ q] at hn; cases hn) h3
    refine ⟨_, pss_cons (ps_if (pt_not (pt_val (pe_call (ok_is_name T) (hr.mono (by decide)) rfl T.m_is_name T.F_is_name.kp (b_is_name T) .nil pass0 (pa_cons (pv 1) (pa_nil))))) (pss_one (L2N.ps_raise rfl (L2N.takes_of rfl rfl rfl rfl) (pmk_badS T.bads (hr.mono (by decide)) rfl (pe_str)))) (pss_nil))
      (pss_cons (ps_if (PW.pt (pw_or (pt_not (pt_val (pe_callB call_isi (by rfl) T.n_isinstance (by decide +kernel) (pa_cons (pv 2) (pa_cons (pe_bltn (v := .ty "tuple") (u := .type "tuple") (by rfl) T.n_tuple (by decide +kernel) rfl) (pa_nil)))))) (pw_or1 (pt_cmpR op_ne (pe_callB call_len_seq (by rfl) T.n_len (by decide +kernel) (pa_cons (pv 2) (pa_nil))) (pe_int) (nomark _))))) (pss_one (L2N.ps_raise rfl (L2N.takes_of rfl rfl rfl rfl) (pmk_badS T.bads (hr.mono (by decide)) rfl (pe_str)))) (pss_nil))
      (pss_cons (ps_asg (pv 2) (pg_tup rfl (pgs_cons (pg_name (i := 3) sc_with_item.nd rfl (Or.inl rfl)) (pgs_cons (pg_name (i := 4) sc_with_item.nd rfl (Or.inl rfl)) (pgs_nil)))))
      (pss_cons (ps_if (pt_not (pt_val (pe_callB call_isi (by rfl) T.n_isinstance (by decide +kernel) (pa_cons (pv 3) (pa_cons (pe_glob (v := .ref T.a_Wheel) rfl T.m_Wheel rfl) (pa_nil)))))) (pss_one (L2N.ps_raise rfl (L2N.takes_of rfl rfl rfl rfl) (pmk_badS T.bads (hr.mono (by decide)) rfl (pe_str)))) (pss_nil))
      (pss_cons (ps_if (pt_not (pt_val (pe_call (ok_is_between T) (hr.mono (by decide)) rfl T.m_is_between T.F_is_between.kp (b_is_between T) .nil pass0 (pa_cons (pv 4) (pa_cons (pe_int) (pa_cons (pe_glob (v := .int 1000000000000) rfl T.m_MQ T.r_MQ) (pa_nil))))))) (pss_one (L2N.ps_raise rfl (L2N.takes_of rfl rfl rfl rfl) (pmk_badS T.bads (hr.mono (by decide)) rfl (pe_str)))) (pss_nil))
      (C8.pss_cut (ps_if (PW.pt (pw_and (pt_cmp (pc_dnotin (units1 hr.units) (pv 1) (pv 0)) rfl) (pw_and1 (pt_cmpR op_eq (pe_callB call_lenD (by rfl) T.n_len (by decide +kernel) (pa_cons (pv 0) (pa_nil))) (pe_glob (v := .int 8) rfl T.m_MN T.r_MN) (nomark _))))) (pss_one (L2N.ps_raise rfl (L2N.takes_of rfl rfl rfl rfl) (pmk_tooM T.tmany (hr.mono (by decide)) rfl (pe_str) (pe_glob (v := .int 8) rfl T.m_MN T.r_MN)))) (pss_nil))
      (pss_one (ps_ret (pe_dun (pv 0) (pv 1) (pv 2))))))))), ?_⟩
    obtain ⟨t, hn, hl⟩ : ∃ t, NT H nv t ∧ (∀ z, nv = .str z → z.length ≤ sizeLine) := by
      have sl : ∀ {n : Str}, nameB (.str n) = true → ∀ z, V.str n = .str z → z.length ≤ sizeLine := fun h z e => by
        cases e
        have := (name_len h).2
        rw [sizeLine_eq]
        omega
      cases hR with
      | good e h1 => exact ⟨_, .str _, sl h1⟩
      | name h1 h2 => exact ⟨_, h1, h2⟩
      | wheel h1 => exact ⟨_, .str _, sl h1⟩
      | price h1 => exact ⟨_, .str _, sl h1⟩
    refine ⟨_, rfl, nv, t, rfl, hn, hl, _, rfl, ?_⟩
    cases bn : nameB nv with
    | false =>
      have ho : o = Option.none := by
        cases hR with
        | name => rfl
        | good e h1 => rw [h1] at bn; cases bn
        | wheel h1 => rfl
        | price h1 => rfl
      exact iteT ⟨(by show 1 ≤ 1000; decide), fun a ha => eS (fun _ _ e => e) (k1 ho) ha⟩
    | true =>
      refine iteF ⟨_, rfl, .ref it, .ty "tuple", .type "tuple", .type "tuple", true, rfl, .ty _, (NT.tup hit).ty, kit_ty (by decide +kernel), _, rfl, ?_⟩
      refine iteF ⟨_, rfl, it, _, rfl, .inr (SqT.of hit), rfl, _, rfl, ?_⟩
      refine iteF ?_
      refine ⟨_, rfl, it, _, rfl, SqT.of hit, rfl, _, _, rfl, _, _, rfl, rfl, ?_⟩
      have rai : ErrR T H E → ∀ x : V, ∀ a, H a = Option.none → spInit1 K "part" (.ref a :: ([x] ++ [])) (upd H a (exo a T.bads.C Option.none)) (fun v' H3 => v' = .non ∧ ∃ (d : Addr) (fs : List (Str × V)), H3 a = some (exo a T.bads.C (some d)) ∧ H3 d = some (exd d fs) ∧ H d = Option.none ∧ E (.ref T.bads.C) (some d) (upd (del H3 a) d (.xd fs))) (fun _ _ _ => False) := fun hE x a ha => eS (fun _ _ e => e) hE ha
      cases hR with
      | name h1 h2 h3 => rw [h3] at bn; cases bn
      | wheel h1 h2 h3 => exact ⟨_, rfl, wv, .ref T.a_Wheel, _, .ref T.a_Wheel, false, rfl, (by constructor), h2.ty, W.no _ h3, _, rfl, iteT ⟨(by show 1 ≤ 1000; decide), rai (k1 rfl) _⟩⟩
      | @price n y tr p b a _ t2 h1 h2 h3 h4 =>
        obtain ⟨C, f, cW, dy, hy⟩ := h2
        refine ⟨_, rfl, .ref y, .ref T.a_Wheel, .ref C, .ref T.a_Wheel, true, rfl, (by constructor), cW.ty _ y dy _ hy, cW.wh, true, rfl, iteF ?_⟩
        refine ⟨_, rfl, pc, t2, 0, 1000000000000, rfl, h3, _, rfl, ?_⟩
        rw [h4]
        exact iteT ⟨(by show 1 ≤ 1000; decide), rai (k1 rfl) _⟩
      | @good y e h1 h2 h3 h4 =>
        obtain ⟨C, f, cW, dy, hy⟩ := id h2
        refine ⟨_, rfl, .ref y, .ref T.a_Wheel, .ref C, .ref T.a_Wheel, true, rfl, (by constructor), cW.ty _ y dy _ hy, cW.wh, true, rfl, iteF ?_⟩
        refine ⟨_, rfl, .int e.pr, _, 0, 1000000000000, rfl, .int _, _, rfl, ?_⟩
        rw [show betB 0 1000000000000 (.int e.pr) = true from decide_eq_true h4]
        refine iteF ?_
        obtain ⟨kvs, hd1, hd2, hd3, hd4⟩ := id hd
        have lk : kvs.length = es.length := PySem.Paired.length hd2
        refine ⟨fun σ' H' => σ' = [some (.ref d), some (.str e.n), some (.ref it), some (.ref y), some (.int e.pr)] ∧ H' = H ∧ fullE es e = false, ?_, ?_⟩
        · refine ⟨_, rfl, _, rfl, d, _, rfl, DGet.k (k := .inr e.n) hd1, ?_⟩
          cases q : hasE es e.n with
          | true =>
            obtain ⟨kv, e', _, _, h3, _⟩ := ents_some hd2 q
            rw [h3]
            refine ⟨_, rfl, iteF ⟨rfl, rfl, ?_⟩⟩
            unfold fullE
            rw [q]
            rfl
          | false =>
            rw [ents_none hd2 q]
            refine ⟨_, rfl, iteT ?_⟩
            refine ⟨_, rfl, d, kvs, rfl, hd1, rfl, _, rfl, ?_⟩
            refine ite2 (fun hc => ?_) (fun hc => ?_)
            · have hc := of_decide_eq_true hc
              have hf : fullE es e = true := by
                unfold fullE
                rw [q]
                refine (Bool.true_and _).trans (decide_eq_true ?_)
                injection hc with hc
                omega
              refine ⟨(by show 2 ≤ 1000; decide), fun a ha => tooM_fin T.tmany ha fun d3 H3 s3 hn3 h3 => k2 e rfl hf _ (by simp) d3 _ H3 s3 hn3 h3⟩
            · refine ⟨rfl, rfl, ?_⟩
              unfold fullE
              rw [q]
              refine (Bool.true_and _).trans (decide_eq_false fun z => hc (decide_eq_true ?_))
              rw [lk, z]
              rfl
        · rintro σ' H' ⟨rfl, rfl, hf⟩
          intro d1 hd1n
          have sd := same_new (o := .dK []) hd1n
          refine ⟨_, rfl, d, kvs, rfl, (fun z => by rw [z] at hd1; rw [hd1] at hd1n; cases hd1n), sd _ _ hd1, upd_same, (by rw [lk, sizeLine_eq]; omega), fun e1 he1 => ?_⟩
          have ne : e1 ≠ d1 := fun z => by rw [z, upd_same] at he1; cases he1
          have he0 : H' e1 = Option.none := by rw [upd_ne ne, upd_ne ne] at he1; exact he1
          have S : ∀ (o1 o2 o3 o4 o5 : HO), Same H' (upd (upd (upd (upd (upd H' d1 o1) d1 o2) e1 o3) e1 o4) d1 o5) := fun o1 o2 o3 o4 o5 b o hb => by
            have n1 := ne_of_none hb hd1n
            have n2 := ne_of_none hb he0
            rw [upd_ne n1, upd_ne n2, upd_ne n2, upd_ne n1, upd_ne n1]
            exact hb
          refine ⟨_, rfl, _, rfl, upd_same, (by rw [upd_ne (Ne.symm ne), upd_same]), .inr e.n, rfl, ?_⟩
          refine k3 e rfl hf d1 _ (S _ _ _ _ _) ⟨_, upd_same, ents_put (ents_same (S _ _ _ _ _) hd2) ⟨rfl, ⟨it, y, rfl, S _ _ _ _ _ _ _ hit, h2.same (S _ _ _ _ _)⟩, h3, h4, h1⟩, putE_nodup hd3, ?_⟩
          rw [putE_len]
          unfold fullE at hf
          by_cases q : hasE es e.n = true
          · rw [if_pos q]; exact hd4
          · rw [if_neg q]
            rw [Bool.not_eq_true] at q
            rw [q] at hf
            have : es.length ≠ 8 := fun z => by rw [decide_eq_true z] at hf; cases hf
            omega
/-- what the value v is as a row: an item, or none -/
inductive RowV (T : Txt K mg) (H : Hp) : V → Option Ent → Prop
  | three {r : Addr} {nv wv pv : V} {o : Option Ent} : H r = some (.tup [nv, wv, pv]) → RowP T H nv wv pv o → RowV T H (.ref r) o
  | other {v : V} {t : String} : NT H v t → (t == "tuple") = false → RowV T H v Option.none
  | len {r : Addr} {xs : List V} : H r = some (.tup xs) → xs.length ≠ 3 → RowV T H (.ref r) Option.none
theorem RowV.same {T : Txt K mg} {H H' : Hp} (s : Same H H') {v : V} {o : Option Ent} (h : RowV T H v o) : RowV T H' v o := by
  cases h with
  | three h1 h2 => exact .three (s _ _ h1) (h2.same s)
  | other h1 h2 => exact .other (h1.same s) h2
  | len h1 h2 => exact .len (s _ _ h1) h2
theorem ErrR.mono {T : Txt K mg} {H H' : Hp} {E : XK} (s : Same H H') (h : ErrR T H E) : ErrR T H' E := fun C hC dx fs H2 s2 hn h2 => h C hC dx fs H2 (s.trans s2) (by
  match q : H dx with
  | Option.none => rfl
  | some o => rw [s _ _ q] at hn; cases hn) h2
def spWithRow (T : Txt K mg) : Sp := fun vs H Q E => ∃ (d : Addr) (es : List Ent) (v : V) (o : Option Ent), vs = [.ref d, v] ∧ DictAt T H d es ∧ RowV T H v o ∧
  (o = Option.none → ErrR T H E) ∧ (∀ e, o = some e → fullE es e = true → ErrR T H E) ∧ (∀ e, o = some e → fullE es e = false → ∀ (d' : Addr) (H' : Hp), Same H H' → DictAt T H' d' (putE es e) → Q (.ref d') H')
theorem ok_with_row (HP : PrF lawFile P) (T : Txt K mg) (W : Whl T) : FnOk P w K mg base (L2N.CX P w) 4 T.a_with_row T.fd_with_row ["items", "row"] (spWithRow T) := by
  refine Fun.okN T.F_with_row sc_with_row (fun vs H Q E h => ?_) (fun cdv A outer s H vs Q E hr h => ?_)
  · obtain ⟨d, es, v, o, rfl, _⟩ := h; rfl
  · obtain ⟨d, es, v, o, rfl, hd, hR, k1, k2, k3⟩ := h
    have rai : ErrR T H E → ∀ x : V, ∀ a, H a = Option.none → spInit1 K "part" (.ref a :: ([x] ++ [])) (upd H a (exo a T.bads.C Option.none)) (fun v' H3 => v' = .non ∧ ∃ (d : Addr) (fs : List (Str × V)), H3 a = some (exo a T.bads.C (some d)) ∧ H3 d = some (exd d fs) ∧ H d = Option.none ∧ E (.ref T.bads.C) (some d) (upd (del H3 a) d (.xd fs))) (fun _ _ _ => False) := fun hE x a ha =>
      bad_fin1 T.bads.oex T.bads.no ha fun d3 H3 s3 hn h3 => hE _ (by simp) d3 _ H3 s3 hn h3
    refine ⟨_, pss_cons (ps_if (PW.pt (pw_or (pt_not (pt_val (pe_callB call_isi (by rfl) T.n_isinstance (by decide +kernel) (pa_cons (pv 1) (pa_cons (pe_bltn (v := .ty "tuple") (u := .type "tuple") (by rfl) T.n_tuple (by decide +kernel) rfl) (pa_nil)))))) (pw_or1 (pt_cmpR op_ne (pe_callB call_len_seq (by rfl) T.n_len (by decide +kernel) (pa_cons (pv 1) (pa_nil))) (pe_int) (nomark _))))) (pss_one (L2N.ps_raise rfl (L2N.takes_of rfl rfl rfl rfl) (pmk_badS T.bads (hr.mono (by decide)) rfl (pe_str)))) (pss_nil))
      (pss_cons (ps_asg (pv 1) (pg_tup rfl (pgs_cons (pg_name (i := 2) sc_with_row.nd rfl (Or.inl rfl)) (pgs_cons (pg_name (i := 3) sc_with_row.nd rfl (Or.inl rfl)) (pgs_cons (pg_name (i := 4) sc_with_row.nd rfl (Or.inl rfl)) (pgs_nil))))))
      (pss_one (ps_ret (pe_call (ok_with_item HP T W) (hr.mono (by decide)) rfl T.m_with_item T.F_with_item.kp (b_with_item T) .nil (L2N.passes_call (L2N.takes_of rfl rfl rfl rfl) (fun _ _ _ _ h => h)) (pa_cons (pv 0) (pa_cons (pv 2) (pa_cons (pe_tup (pa_cons (pv 3) (pa_cons (pv 4) (pa_nil)))) (pa_nil)))))))), ?_⟩
    cases hR with
    | @other _ t h1 h2 =>
      refine ⟨_, rfl, v, .ty "tuple", .type t, .type "tuple", (t == "tuple"), rfl, .ty _, h1.ty, kit_ty h1.tupB, _, rfl, ?_⟩
      rw [h2]
      exact iteT (iteT ⟨(by show 1 ≤ 1000; decide), rai (k1 rfl) _⟩)
    | @len r xs h1 h2 =>
      refine ⟨_, rfl, .ref r, .ty "tuple", .type "tuple", .type "tuple", true, rfl, .ty _, (NT.tup h1).ty, kit_ty (by decide +kernel), _, rfl, iteF ?_⟩
      refine ⟨_, rfl, r, _, rfl, .inr (SqT.of h1), rfl, _, rfl, ?_⟩
      refine if_true_of ?_ ⟨(by show 1 ≤ 1000; decide), rai (k1 rfl) _⟩
      rw [decide_eq_false fun z => h2 (by injection z with z; omega)]
      rfl
    | @three r nv wv pc _ h1 h2 =>
      refine ⟨_, rfl, .ref r, .ty "tuple", .type "tuple", .type "tuple", true, rfl, .ty _, (NT.tup h1).ty, kit_ty (by decide +kernel), _, rfl, iteF ?_⟩
      refine ⟨_, rfl, r, _, rfl, .inr (SqT.of h1), rfl, _, rfl, iteF ?_⟩
      refine ⟨_, rfl, r, _, rfl, SqT.of h1, rfl, _, _, rfl, _, _, rfl, _, _, rfl, rfl, ?_⟩
      refine ⟨_, rfl, _, rfl, _, rfl, _, rfl, (by show 2 ≤ sizeLine; decide), fun it hit => ?_⟩
      have si := same_new (o := .tup [wv, pc]) hit
      exact ⟨d, it, es, nv, wv, pc, o, rfl, hd.same si, upd_same, h2.same si, fun z => (k1 z).mono si, fun e z f => (k2 e z f).mono si, fun e z f d' H' s' => k3 e z f d' H' (si.trans s')⟩

/-! ### defs that ask nothing of what is being handled -/
section
variable {P : Program} {w : World} {K : PySem.W.Frag} {mg : Str → Option Value} {base : Heap}
/-- as FnH, whatever the context of the error that is handled -/
structure FnQ (P : Program) (w : World) (K : PySem.W.Frag) (mg : Str → Option Value) (base : Heap) (k : Nat) (f : Addr) (fd : FuncData) (ps : List Str) (sp : Sp) : Prop where
  len : ∀ vs H Q E, sp vs H Q E → vs.length = ps.length
  run : ∀ (A : Around) (outer : List Env) (s : Shared) (H : Hp) (args : Args) (us : List Value) (vs : List V) (Q : VK) (p : Addr × Obj), L2H.RoomH k A → L2H.PinOk outer H s p → Env0 P w K mg base A outer s H → BindsTo s fd args (ps.zip us) → Vals vs us → sp vs H Q E0 →
    codeAny (model P w) A (.call (.ref f) args) (CR CX0 outer P w H s Q E0) s
theorem Fun.okQ {x qual : Str} {st : Stmt} {f : Addr} {fd : FuncData} {N ps : List Str} {k : Nat} {sp : Sp} (F : Fun K x qual st f fd) (S : FnScope N ps (defScope st)) (len : ∀ vs H Q E, sp vs H Q E → vs.length = ps.length)
    (go : ∀ (cdv : Value) (A : Around) (outer : List Env) (s : Shared) (H : Hp) (vs : List V) (Q : VK) (p : Addr × Obj), L2H.RoomH k (A.deeper (envOfC qual (defScope st) s.heap.objs.size f cdv)) → sp vs H Q E0 →
      ∃ t, PSs (L2H.cxH CX0 P w K mg base N qual (defScope st) f cdv A outer s H E0 p) (defBody st) t ∧ t { nx := fun _ H' => Q .non H', rt := Q } (start N vs) H) : FnQ P w K mg base (k + 1) f fd ps sp := by
  obtain ⟨oc, od, kV, doc, pm, an, cdv, ct, osl, rfl, lk, hcd⟩ := F.ex
  constructor
  · exact len
  intro A outer s H args us vs Q p hr hpin e0 hb r hsp
  have KX := e0.mod.kin.keeps (h' := s.heap) fun b o z => (e0.bs b o z).1
  have lim := e0.mod.nolimit.keeps (h' := s.heap) fun b o z => (e0.bs b o z).1
  have hk : ∀ y ∈ ps.zip us, (defScope st).names.lookup y.1 = some .local ∨ ((defScope st).names.lookup y.1 = some .cell ∧ ((cellsFrom (s.heap.objs.size + 1) (defScope st).names []).lookup y.1).isSome = true) := by
    rintro ⟨n, v⟩ hy
    rcases S.par n (List.of_mem_zip hy).1 with q | q
    · exact Or.inl q
    · exact Or.inr ⟨q, PySem.W.cellsFrom_some _ _ _ (Or.inl q)⟩
  refine codeAny_call_function hr.depth (KX _ _ lk) rfl S.co S.gen rfl (PySem.W.codeRec_of KX hcd) (hb _ _ _ _ (wpAny_newFunctionEnv_cells S.kind hk fun env he s1 xx => ?_))
  subst he
  obtain ⟨t, ht, hq⟩ := go cdv A outer s H vs Q p (hr.deeper _) hsp
  have I := L2H.inv_startH (CX := CX0) (E := E0) S hpin e0 (len _ _ _ _ hsp) r xx
  exact ⟨lim.keeps xx.toInCall.keep, codeAny_func (wpAny_mono (ht.run [] s1 _ H _ I hq) (fun fl s' z => match fl, z with
    | .ret u, ⟨v, _, H', J, rv, q⟩ => ⟨v, H', J.os, J.bare, J.base, J.hok, rv, q⟩
    | .next, ⟨_, H', J, q⟩ => ⟨V.non, H', J.os, J.bare, J.base, J.hok, rfl, q⟩
    | .brk, ⟨_, _, _, q⟩ => q.elim
    | .cont, ⟨_, _, _, q⟩ => q.elim) fun e s' z => z)⟩
end
section
variable {X : Cx} {k : Nat} {C f : Addr} {fd : FuncData} {ps : List Str} {sp : Sp}
theorem run_fnQ {A' : Around} {p : Addr × Obj} {pins : List (Addr × Obj)} {σ : L2.St} {H : Hp} {s : Shared} {Q : VK} {us : List Value} {vs : List V} (F : FnQ X.prog X.w X.K X.mg X.base k f fd ps sp) (hr : L2H.RoomH k A') (hA : ∀ {s : Shared} {H : Hp}, Env0 X.prog X.w X.K X.mg X.base X.A X.stack s H → Env0 X.prog X.w X.K X.mg X.base A' X.stack s H) (hp : p ∈ X.pn) (hb : Binds X.K fd ps [])
    (I : Inv X pins σ H s) (r : Vals vs us) (h : sp vs H Q E0) : codeAny (model X.prog X.w) A' (.call (.ref f) ⟨us, []⟩) (fun z s' => match z with | .ok (.ret u) => EP X pins σ Q u s' | _ => False) s := by
  have hl : us.length = ps.length := by rw [← r.length]; exact F.len _ _ _ _ h
  have b := hb s us I.kIn (by rw [List.append_nil]; exact hl)
  rw [List.append_nil] at b
  have P1 := I.pin p (List.mem_append_left _ hp)
  have hpin : L2H.PinOk X.stack H s p := ⟨P1.1, P1.2.1, fun hm => (List.mem_cons.mp (I.stkSub p.1 hm)).elim P1.2.2.1 P1.2.2.2.1, P1.2.2.2.2⟩
  refine codeAny_mono (F.run A' X.stack s H ⟨us, []⟩ us vs Q p hr hpin (hA I.env0) b r h) fun r s' hq => ?_
  match r, hq with
  | .ok (.ret u), hq => exact I.after hq
theorem run_fnQ1 {A' : Around} {p : Addr × Obj} {pins : List (Addr × Obj)} {σ : L2.St} {H : Hp} {s : Shared} {Q : VK} {us : List Value} {vs : List V} (F : FnQ X.prog X.w X.K X.mg X.base k f fd ps sp) (hr : L2H.RoomH k A') (hA : ∀ {s : Shared} {H : Hp}, Env0 X.prog X.w X.K X.mg X.base X.A X.stack s H → Env0 X.prog X.w X.K X.mg X.base A' X.stack s H) (hp : p ∈ X.pn) (hb : Binds X.K fd ps [])
    (I : Inv X pins σ H s) (r : Vals vs us) (h : sp vs H Q E0) : wpAny (model X.prog X.w) A' (call (.ref f) us) (EP X pins σ Q) X.xe s := by
  refine wpAny_call (codeAny_mono (run_fnQ F hr hA hp hb I r h) fun r s' hq => ?_)
  match r, hq with
  | .ok (.ret u), hq => exact hq
theorem call_lenQ {p : Addr × Obj} (F : FnQ X.prog X.w X.K X.mg X.base k f fd ps sp) (hr : L2H.RoomH (k + 1) X.A) (hp : p ∈ X.pn) (hb : Binds X.K fd ps []) (hs : PySem.W.findIn X.K (.ref C) "__len__" = some (some (.ref f))) (hf : PySem.W.isFn X.K (.ref f) = true) : CallR X (.builtin "len") (rLenO C sp E0) := by
  intro pins s σ H xs us Q I r h
  obtain ⟨a, dx, fs, rfl, ha, q⟩ := h
  obtain ⟨u, rfl, ru⟩ := vals1 r
  obtain rfl : u = Value.ref a := ru
  obtain ⟨o, od, J⟩ := ins_at I ha
  obtain ⟨m, hF⟩ := I.fr
  refine PySem.W.len_K hF I.ok.mod.kin J hs hf (thn (run_fnQ1 (A' := X.A.in1) (us := [.ref a]) (vs := [.ref a]) F (roomH_in1 hr) (fun e => e.in1) hp hb I (.cons rfl .nil) q) fun v s1 z => ?_)
  obtain ⟨w', H1, I1, rw1, n, rfl, h0, h1, q1⟩ := z
  obtain ⟨t, rfl⟩ := rw1
  exact ⟨⟨h0, h1⟩, .int n, H1, I1.tok _, ⟨_, rfl⟩, q1⟩
theorem op_notInQ {p : Addr × Obj} (F : FnQ X.prog X.w X.K X.mg X.base k f fd ps sp) (hr : L2H.RoomH k X.A) (hp : p ∈ X.pn) (hb : Binds X.K fd ps []) (hs : PySem.W.findIn X.K (.ref C) "__contains__" = some (some (.ref f))) (hf : PySem.W.isFn X.K (.ref f) = true) : OpR X (compareOp .NotIn) (rNotInO C sp E0) := by
  intro pins s σ H x y v u Q I rx ry h
  obtain ⟨a, dx, fs, rfl, ha, q⟩ := h
  obtain rfl : u = Value.ref a := ry
  obtain ⟨o, od, J⟩ := ins_at I ha
  obtain ⟨m, hF⟩ := I.fr
  refine PySem.W.notIn_K hF I.ok.mod.kin J hs hf (thn (run_fnQ1 (A' := X.A) (us := [.ref a, v]) (vs := [.ref a, x]) F hr (fun e => e) hp hb I (.cons rfl (.cons rx .nil)) q) fun r s1 z => ?_)
  obtain ⟨w, H1, I1, rw1, b, rfl, q1⟩ := z
  cases rw1
  exact wpAny_truthy_bool ⟨.bl (!b), H1, I1, rfl, q1⟩
theorem pe_ixQ {p : Addr × Obj} {a b : Expr} {ta tb : TE} {pos : Pos} (F : FnQ X.prog X.w X.K X.mg X.base k f fd ps sp) (hr : L2H.RoomH (k + 1) X.A) (hp : p ∈ X.pn) (hb : Binds X.K fd ps []) (hs : PySem.W.findIn X.K (.ref C) "__getitem__" = some (some (.ref f))) (hf : PySem.W.fnIn X.K f = true) (hfn : PySem.W.isFn X.K (.ref f) = true)
    (ha : PE X a ta) (hi : PE X b tb) (hsl : ∀ o i, subscripted b true o i = runValue (.builtin "lifetime.subscript" ⟨[o, i], []⟩) := by intros; rfl) : PE X (.Subscript a b pos) (tOp (rIxO C sp E0) ta tb) := by
  refine ⟨fun pins s σ H Q I h => PyProof.Rows.Subscript_ (thn (ha.run pins s σ H _ I h) fun v s1 z => ?_)⟩
  obtain ⟨x, H1, I1, rx, h1⟩ := z
  refine thn (hi.run pins s1 σ H1 _ I1 h1) fun u s2 z => ?_
  obtain ⟨y, H2, I2, ry, q, dx, fs, rfl, ea, h2⟩ := z
  obtain rfl : v = Value.ref q := rx
  obtain ⟨o, od, J⟩ := ins_at I2 ea
  obtain ⟨m, hF⟩ := I2.fr
  exact PySem.W.sub_K hF I2.ok.mod.kin J hs hf hfn (run_fnQ1 (A' := X.A.in1) (us := [.ref q, u]) (vs := [.ref q, y]) F (roomH_in1 hr) (fun e => e.in1) hp hb I2 (.cons rfl (.cons ry .nil)) h2) (hsl _ _)
theorem pe_propQ (K : PySem.W.Frag) (hK : X.K = K) {p : Addr × Obj} {x : Str} {e : Expr} {pos : Pos} {ta : TE} (he : PE X e ta) (pa : Addr) (F : FnQ X.prog X.w X.K X.mg X.base k f fd ps sp) (hr : L2H.RoomH (k + 1) X.A) (hp : p ∈ X.pn) (hb : Binds X.K fd ps [])
    (hab : attributeBase e x X.env (eval e X.env) = eval e X.env) : PE X (.Attribute e x pos) (tPropW K x pa f sp [] E0 ta) := by
  subst hK
  refine ⟨fun pins s σ H Q I h => attr_of hab (thn (he.run pins s σ H _ I h) fun u s1 z => ?_)⟩
  obtain ⟨y, H1, I1, rx, a, C, dx, fs, ex, ea, c, hpr, q⟩ := z
  subst ex
  obtain rfl : u = Value.ref a := rx
  obtain ⟨mA, O, _, _, _, _⟩ := ins_get I1.hok ea
  obtain ⟨od, J, _⟩ := O.look
  obtain ⟨rest, hrec⟩ := hpr.rec_
  have I2 := I1.tok (s1.toks + 1)
  have hcc : (PySem.W.clsIn X.K C).isSome = true := by
    obtain ⟨cd, hc, _⟩ := PySem.W.any_some c.hd
    rw [hc]
    rfl
  refine PySem.W.get_bind I1.kIn J (PySem.W.plainGet_of (c.get x)).1 (PySem.W.findObj_data hcc hpr.at_ hpr.get hpr.tak) (PySem.W.plainGet_of (c.get x)).2 (wpAny_call (PySem.W.prop_get (s := { s1 with toks := s1.toks + 1 }) I1.kIn hrec ?_))
  refine codeAny_mono (run_fnQ (A' := X.A.in1) (us := [.ref a]) (vs := [.ref a]) F (roomH_in1 hr) (fun e => e.in1) hp hb I2 (.cons rfl .nil) q) fun r s' hq => ?_
  match r, hq with
  | .ok (.ret u), hq =>
    obtain ⟨v, H', I3, rv, q3⟩ := hq
    show wpAny _ _ (handedOut u) _ _ _
    rw [PySem.W.handedOut_of (handed_of rv)]
    exact wpAny_pure ⟨v, H', I3, rv, q3⟩
end

/-- all but x stays -/
def But (x : Addr) (H H' : Hp) : Prop := ∀ b o, b ≠ x → H b = some o → H' b = some o
theorem But.refl (x : Addr) (H : Hp) : But x H H := fun _ _ _ e => e
theorem But.trans {x : Addr} {H H1 H2 : Hp} (s : But x H H1) (t : But x H1 H2) : But x H H2 := fun b o n e => t b o n (s b o n e)
theorem But.of {x : Addr} {H H1 : Hp} (s : Same H H1) : But x H H1 := fun b o _ e => s b o e
theorem But.del {x : Addr} {H H1 : Hp} (s : But x H H1) : Same (del H x) (del H1 x) := fun b o e => by
  by_cases n : b = x
  · rw [n, del_same] at e; cases e
  · rw [del_ne n] at e ⊢
    exact s b o n e
theorem del_sub {x : Addr} {H : Hp} : Same (del H x) H := fun b o e => by
  by_cases n : b = x
  · rw [n, del_same] at e; cases e
  · rwa [del_ne n] at e
theorem Same.del {x : Addr} {H H1 : Hp} (s : Same H H1) : Same (del H x) (del H1 x) := (But.of s).del
theorem del_at {x b : Addr} {H : Hp} {o u : HO} (hx : H x = some u) (hb : H b = some o) (ne : o ≠ u) : del H x b = some o := by
  rw [del_ne]
  · exact hb
  · rintro rfl
    rw [hx] at hb
    exact ne (Option.some.inj hb).symm
abbrev shFs (d t tp ta : V) : List (Str × V) := [("_items", d), ("_names", t), ("_past", tp), ("_ahead", ta)]
/-- the names in order -/
def NamesAt (G : Hp) (t : Addr) (es : List Ent) : Prop := ∃ ns : List Str, G t = some (.tup (ns.map V.str)) ∧ ns.Pairwise (fun a b => a.cps.toList < b.cps.toList) ∧ ns.Perm (es.map (·.n))
theorem NamesAt.same {G G' : Hp} (s : Same G G') {t : Addr} {es : List Ent} (h : NamesAt G t es) : NamesAt G' t es := by
  obtain ⟨ns, h1, h2⟩ := h
  exact ⟨ns, s _ _ h1, h2⟩
/-- a tuple of dicts of items -/
def PastAt (T : Txt K mg) (G : Hp) (t : Addr) (ps : List (List Ent)) : Prop := ∃ ds : List Addr, G t = some (.tup (ds.map V.ref)) ∧ PySem.Paired (DictAt T G) ds ps
theorem dicts_same {T : Txt K mg} {G G' : Hp} (s : Same G G') : ∀ {ds : List Addr} {ps : List (List Ent)}, PySem.Paired (DictAt T G) ds ps → PySem.Paired (DictAt T G') ds ps
  | _, _, .nil => .nil
  | _, _, .cons h t => .cons (h.same s) (dicts_same s t)
theorem PastAt.same {T : Txt K mg} {G G' : Hp} (s : Same G G') {t : Addr} {ps : List (List Ent)} (h : PastAt T G t ps) : PastAt T G' t ps := by
  obtain ⟨ds, h1, h2⟩ := h
  exact ⟨ds, s _ _ h1, dicts_same s h2⟩
/-- what a shelf's fields hold -/
structure ShIn (T : Txt K mg) (G : Hp) (es : List Ent) (past ahead : List (List Ent)) (d t tp ta : Addr) : Prop where
  di : DictAt T G d es
  nm : NamesAt G t es
  pa : PastAt T G tp past
  ah : PastAt T G ta ahead
theorem ShIn.same {T : Txt K mg} {G G' : Hp} (s : Same G G') {es : List Ent} {past ahead : List (List Ent)} {d t tp ta : Addr} (h : ShIn T G es past ahead d t tp ta) : ShIn T G' es past ahead d t tp ta := ⟨h.di.same s, h.nm.same s, h.pa.same s, h.ah.same s⟩
/-- at x a shelf with these items, and what can be taken back and done again -/
def ShAt (T : Txt K mg) (H : Hp) (x : Addr) (es : List Ent) (past ahead : List (List Ent)) : Prop := ∃ dx d t tp ta, H x = some (.ins T.a_Shelf dx (shFs (.ref d) (.ref t) (.ref tp) (.ref ta))) ∧ ShIn T (del H x) es past ahead d t tp ta
theorem ShAt.same {T : Txt K mg} {H H' : Hp} (s : Same H H') {x : Addr} {es : List Ent} {past ahead : List (List Ent)} (h : ShAt T H x es past ahead) : ShAt T H' x es past ahead := by
  obtain ⟨dx, d, t, tp, ta, h1, h2⟩ := h
  exact ⟨dx, d, t, tp, ta, s _ _ h1, h2.same (Same.del s)⟩
theorem na_items (T : Txt K mg) : NoAttr K T.a_Shelf "_items" := T.s_na _ (by simp)
theorem na_names (T : Txt K mg) : NoAttr K T.a_Shelf "_names" := T.s_na _ (by simp)
theorem na_past (T : Txt K mg) : NoAttr K T.a_Shelf "_past" := T.s_na _ (by simp)
theorem na_ahead (T : Txt K mg) : NoAttr K T.a_Shelf "_ahead" := T.s_na _ (by simp)
theorem PastAt.nil {T : Txt K mg} {G : Hp} {t : Addr} (h : G t = some (.tup [])) : PastAt T G t [] := ⟨[], h, .nil⟩
theorem step_but {G : Hp} {x t : Addr} {u o : HO} (hx : G x = some u) (ht : G t = Option.none) (u' : HO) : But x G (upd (upd G t o) x u') ∧ (upd (upd G t o) x u') t = some o ∧ t ≠ x := by
  have n : t ≠ x := fun z => by rw [z, hx] at ht; cases ht
  exact ⟨fun b v nb e => by rw [upd_ne nb, upd_ne (ne_of_none e ht)]; exact e, by rw [upd_ne n, upd_same], n⟩
def spShInit (T : Txt K mg) : Sp := fun vs H Q _ => ∃ (x dx : Addr), vs = [.ref x] ∧ H x = some (.ins T.a_Shelf dx []) ∧ ∀ H', But x H H' → ShAt T H' x [] [] [] → Q .non H'
theorem ok_Shelf_init (T : Txt K mg) : FnOk P w K mg base CX0 1 T.a_Shelf_init T.fd_Shelf_init ["self"] (spShInit T) := by
  refine T.F_Shelf_init.ok sc_Shelf_init (fun vs H Q E h => ?_) (fun cdv A outer s H vs Q E hr h => ?_)
  · obtain ⟨x, dx, rfl, _⟩ := h; rfl
  · obtain ⟨x, dx, rfl, hx, k⟩ := h
    refine ⟨_, pss_cons (ps_fld (pv 0) (pe_dnewK) rfl)
      (pss_cons (ps_fld (pv 0) (pe_tup (pa_nil)) rfl)
      (pss_cons (ps_fld (pv 0) (pe_tup (pa_nil)) rfl)
      (pss_one (ps_fld (pv 0) (pe_tup (pa_nil)) rfl)))), ?_⟩
    have na : ∀ {G : Hp} {b : Addr} {o : HO}, G x = some o → G b = Option.none → b ≠ x := fun h1 h2 z => by rw [z, h1] at h2; cases h2
    intro d hd
    have n1 := na hx hd
    refine ⟨_, rfl, x, T.a_Shelf, dx, _, rfl, (by rw [upd_ne (Ne.symm n1)]; exact hx), T.scls, na_items T, (by show 0 < 1000; decide), ?_⟩
    refine ⟨(by show 0 ≤ sizeLine; decide), fun t ht => ?_⟩
    have n2 := na upd_same ht
    refine ⟨_, rfl, x, T.a_Shelf, dx, _, rfl, (by rw [upd_ne (Ne.symm n2), upd_same]), T.scls, na_names T, (by show 1 < 1000; decide), ?_⟩
    refine ⟨(by show 0 ≤ sizeLine; decide), fun tp htp => ?_⟩
    have n3 := na upd_same htp
    refine ⟨_, rfl, x, T.a_Shelf, dx, _, rfl, (by rw [upd_ne (Ne.symm n3), upd_same]), T.scls, na_past T, (by show 2 < 1000; decide), ?_⟩
    refine ⟨(by show 0 ≤ sizeLine; decide), fun ta hta => ?_⟩
    have n4 := na upd_same hta
    refine ⟨_, rfl, x, T.a_Shelf, dx, _, rfl, (by rw [upd_ne (Ne.symm n4), upd_same]), T.scls, na_ahead T, (by show 3 < 1000; decide), ?_⟩
    obtain ⟨b1, e1, m1⟩ := step_but (o := .dK []) hx hd (.ins T.a_Shelf dx (putF "_items" (V.ref d) []))
    obtain ⟨b2, e2, m2⟩ := step_but (o := .tup []) upd_same ht (.ins T.a_Shelf dx (putF "_names" (V.ref t) (putF "_items" (V.ref d) [])))
    obtain ⟨b3, e3, m3⟩ := step_but (o := .tup []) upd_same htp (.ins T.a_Shelf dx (putF "_past" (V.ref tp) (putF "_names" (V.ref t) (putF "_items" (V.ref d) []))))
    obtain ⟨b4, e4, m4⟩ := step_but (o := .tup []) upd_same hta (.ins T.a_Shelf dx (shFs (.ref d) (.ref t) (.ref tp) (.ref ta)))
    have c3 := b3.trans b4
    have c2 := b2.trans c3
    refine k _ (b1.trans c2) ⟨dx, d, t, tp, ta, upd_same, ?_⟩
    have nm : ∀ {G : Hp} {b : Addr} {o : HO}, b ≠ x → G b = some o → del G x b = some o := fun n e => by rw [del_ne n]; exact e
    exact ⟨⟨[], nm m1 (c2 _ _ m1 e1), .nil, List.Pairwise.nil, by decide⟩, ⟨[], nm m2 (c3 _ _ m2 e2), List.Pairwise.nil, List.Perm.refl _⟩, PastAt.nil (nm m3 (b4 _ _ m3 e3)), PastAt.nil (nm m4 e4)⟩
theorem ShAt.fld {T : Txt K mg} {H : Hp} {x : Addr} {es : List Ent} {past ahead : List (List Ent)} (h : ShAt T H x es past ahead) : ∃ dx d t tp ta, H x = some (.ins T.a_Shelf dx (shFs (.ref d) (.ref t) (.ref tp) (.ref ta))) ∧ ShIn T H es past ahead d t tp ta := by
  obtain ⟨dx, d, t, tp, ta, h1, h2⟩ := h
  exact ⟨dx, d, t, tp, ta, h1, h2.same del_sub⟩
theorem paired_len {α β : Type} {R : α → β → Prop} : ∀ {as : List α} {bs : List β}, PySem.Paired R as bs → as.length = bs.length
  | _, _, .nil => rfl
  | _, _, .cons _ t => congrArg (· + 1) (paired_len t)
def spCanUndo (T : Txt K mg) : Sp := fun vs H Q _ => ∃ (x : Addr) (es : List Ent) (past ahead : List (List Ent)), vs = [.ref x] ∧ ShAt T H x es past ahead ∧ Q (.int (past.length : Nat)) H
def spCanRedo (T : Txt K mg) : Sp := fun vs H Q _ => ∃ (x : Addr) (es : List Ent) (past ahead : List (List Ent)), vs = [.ref x] ∧ ShAt T H x es past ahead ∧ Q (.int (ahead.length : Nat)) H
def spShLen (T : Txt K mg) : Sp := fun vs H Q _ => ∃ (x : Addr) (es : List Ent) (past ahead : List (List Ent)), vs = [.ref x] ∧ ShAt T H x es past ahead ∧ Q (.int (es.length : Nat)) H
theorem can_undo_body {T : Txt K mg} {H : Hp} {vs : List V} {Q : VK} {E : XK} (h : spCanUndo T vs H Q E) : ∃ (x dx d t tp ta : Addr) (ds : List Addr) (past : List (List Ent)), vs = [.ref x] ∧ H x = some (.ins T.a_Shelf dx (shFs (.ref d) (.ref t) (.ref tp) (.ref ta))) ∧ H tp = some (.tup (ds.map V.ref)) ∧ Q (.int ((ds.map V.ref).length : Nat)) H := by
  obtain ⟨x, es, past, ahead, rfl, hS, k⟩ := h
  obtain ⟨dx, d, t, tp, ta, hx, hI⟩ := hS.fld
  obtain ⟨ds, h1, h2⟩ := hI.pa
  exact ⟨x, dx, d, t, tp, ta, ds, past, rfl, hx, h1, by rw [List.length_map, paired_len h2]; exact k⟩
theorem can_redo_body {T : Txt K mg} {H : Hp} {vs : List V} {Q : VK} {E : XK} (h : spCanRedo T vs H Q E) : ∃ (x dx d t tp ta : Addr) (ds : List Addr), vs = [.ref x] ∧ H x = some (.ins T.a_Shelf dx (shFs (.ref d) (.ref t) (.ref tp) (.ref ta))) ∧ H ta = some (.tup (ds.map V.ref)) ∧ Q (.int ((ds.map V.ref).length : Nat)) H := by
  obtain ⟨x, es, past, ahead, rfl, hS, k⟩ := h
  obtain ⟨dx, d, t, tp, ta, hx, hI⟩ := hS.fld
  obtain ⟨ds, h1, h2⟩ := hI.ah
  exact ⟨x, dx, d, t, tp, ta, ds, rfl, hx, h1, by rw [List.length_map, paired_len h2]; exact k⟩
theorem len_body {T : Txt K mg} {H : Hp} {vs : List V} {Q : VK} {E : XK} (h : spShLen T vs H Q E) : ∃ (x dx d t tp ta : Addr) (ns : List Str), vs = [.ref x] ∧ H x = some (.ins T.a_Shelf dx (shFs (.ref d) (.ref t) (.ref tp) (.ref ta))) ∧ H t = some (.tup (ns.map V.str)) ∧ Q (.int ((ns.map V.str).length : Nat)) H := by
  obtain ⟨x, es, past, ahead, rfl, hS, k⟩ := h
  obtain ⟨dx, d, t, tp, ta, hx, hI⟩ := hS.fld
  obtain ⟨ns, h1, h2, h3⟩ := hI.nm
  exact ⟨x, dx, d, t, tp, ta, ns, rfl, hx, h1, by rw [List.length_map, h3.length_eq, List.length_map]; exact k⟩
theorem ok_Shelf_can_undo (T : Txt K mg) : FnOk P w K mg base CX0 1 T.a_Shelf_can_undo T.fd_Shelf_can_undo ["self"] (spCanUndo T) := by
  refine T.F_Shelf_can_undo.ok sc_Shelf_can_undo (fun vs H Q E h => ?_) (fun cdv A outer s H vs Q E hr h => ?_)
  · obtain ⟨x, es, past, ahead, rfl, _⟩ := h; rfl
  · obtain ⟨x, dx, d, t, tp, ta, ds, past, rfl, hx, h1, k⟩ := can_undo_body h
    exact ⟨_, pss_one (ps_ret (pe_callB call_len_seq (by rfl) T.n_len (by decide +kernel) (pa_cons (pe_fld (pv 0) rfl) (pa_nil)))), _, rfl, x, T.a_Shelf, dx, _, _, rfl, hx, T.scls, na_past T, rfl, tp, _, rfl, .inr (SqT.of h1), k⟩
theorem okH_can_undo (T : Txt K mg) : FnQ P w K mg base 1 T.a_Shelf_can_undo T.fd_Shelf_can_undo ["self"] (spCanUndo T) := by
  refine Fun.okQ T.F_Shelf_can_undo sc_Shelf_can_undo (fun vs H Q E h => ?_) (fun cdv A outer s H vs Q p hr h => ?_)
  · obtain ⟨x, es, past, ahead, rfl, _⟩ := h; rfl
  · obtain ⟨x, dx, d, t, tp, ta, ds, past, rfl, hx, h1, k⟩ := can_undo_body h
    exact ⟨_, pss_one (ps_ret (pe_callB call_len_seq (by rfl) T.n_len (by decide +kernel) (pa_cons (pe_fld (pv 0) rfl) (pa_nil)))), _, rfl, x, T.a_Shelf, dx, _, _, rfl, hx, T.scls, na_past T, rfl, tp, _, rfl, .inr (SqT.of h1), k⟩
theorem ok_Shelf_can_redo (T : Txt K mg) : FnOk P w K mg base CX0 1 T.a_Shelf_can_redo T.fd_Shelf_can_redo ["self"] (spCanRedo T) := by
  refine T.F_Shelf_can_redo.ok sc_Shelf_can_redo (fun vs H Q E h => ?_) (fun cdv A outer s H vs Q E hr h => ?_)
  · obtain ⟨x, es, past, ahead, rfl, _⟩ := h; rfl
  · obtain ⟨x, dx, d, t, tp, ta, ds, rfl, hx, h1, k⟩ := can_redo_body h
    exact ⟨_, pss_one (ps_ret (pe_callB call_len_seq (by rfl) T.n_len (by decide +kernel) (pa_cons (pe_fld (pv 0) rfl) (pa_nil)))), _, rfl, x, T.a_Shelf, dx, _, _, rfl, hx, T.scls, na_ahead T, rfl, ta, _, rfl, .inr (SqT.of h1), k⟩
theorem okH_len (T : Txt K mg) : FnQ P w K mg base 1 T.a_Shelf_len T.fd_Shelf_len ["self"] (spShLen T) := by
  refine Fun.okQ T.F_Shelf_len sc_Shelf_len (fun vs H Q E h => ?_) (fun cdv A outer s H vs Q p hr h => ?_)
  · obtain ⟨x, es, past, ahead, rfl, _⟩ := h; rfl
  · obtain ⟨x, dx, d, t, tp, ta, ns, rfl, hx, h1, k⟩ := len_body h
    exact ⟨_, pss_one (ps_ret (pe_callB call_len_seq (by rfl) T.n_len (by decide +kernel) (pa_cons (pe_fld (pv 0) rfl) (pa_nil)))), _, rfl, x, T.a_Shelf, dx, _, _, rfl, hx, T.scls, na_names T, rfl, t, _, rfl, .inr (SqT.of h1), k⟩
theorem inV_strs (n : Str) : ∀ ns : List Str, inV (.str n) (ns.map V.str) = decide (n ∈ ns)
  | [] => rfl
  | x :: r => by
    show (eqV (.str x) (.str n) || inV (.str n) (r.map V.str)) = _
    rw [inV_strs n r]
    have e : eqV (.str x) (.str n) = decide (x = n) := by
      show (x == n) = _
      by_cases h : x = n
      · rw [decide_eq_true h, h]; exact beq_self_eq_true n
      · rw [decide_eq_false h]; exact beq_eq_false_iff_ne.mpr h
    rw [e]
    by_cases h : x = n <;> by_cases h2 : n ∈ r <;> simp [h, h2, Ne.symm, eq_comm]
theorem flat_strs : ∀ ns : List Str, (ns.map V.str).all flatV = true
  | [] => rfl
  | _ :: r => by rw [List.map_cons, List.all_cons, flat_strs r]; rfl
theorem has_names {es : List Ent} {ns : List Str} (p : ns.Perm (es.map (·.n))) (n : Str) : decide (n ∈ ns) = hasE es n := by
  cases h : hasE es n with
  | true => exact decide_eq_true (p.mem_iff.mpr (hasE_iff.mp h))
  | false => exact decide_eq_false fun z => by rw [hasE_iff.mpr (p.mem_iff.mp z)] at h; cases h
/-- whether there is an item of this name -/
def spShIn (T : Txt K mg) : Sp := fun vs H Q _ => ∃ (x : Addr) (n : Str) (es : List Ent) (past ahead : List (List Ent)), vs = [.ref x, .str n] ∧ ShAt T H x es past ahead ∧ n.length ≤ 8 ∧ Q (.bl (hasE es n)) H
theorem ok_Shelf_contains (T : Txt K mg) : FnOk P w K mg base CX0 1 T.a_Shelf_contains T.fd_Shelf_contains ["self", "value"] (spShIn T) := by
  refine T.F_Shelf_contains.ok sc_Shelf_contains (fun vs H Q E h => ?_) (fun cdv A outer s H vs Q E hr h => ?_)
  · obtain ⟨x, n, es, past, ahead, rfl, _⟩ := h; rfl
  · obtain ⟨x, n, es, past, ahead, rfl, hS, hn, k⟩ := h
    obtain ⟨dx, d, t, tp, ta, hx, hI⟩ := hS.fld
    obtain ⟨ns, h1, h2, h3⟩ := hI.nm
    refine ⟨_, pss_one (ps_ret (pe_and (pe_callB call_isi (by rfl) T.n_isinstance (by decide +kernel) (pa_cons (pv 1) (pa_cons (pe_bltn (v := .ty "str") (u := .type "str") (by rfl) T.n_str (by decide +kernel) rfl) (pa_nil)))) (pe_one (pe_cmpR op_in_seq (pv 1) (pe_fld (pv 0) rfl) rfl)))), ?_⟩
    refine ⟨_, rfl, .str n, .ty "str", .type "str", .type "str", true, rfl, .ty _, (NT.str (H := H) n).ty, kit_ty (by decide +kernel), _, rfl, iteT ?_⟩
    refine ⟨_, rfl, _, rfl, x, T.a_Shelf, dx, _, _, rfl, hx, T.scls, na_names T, rfl, t, _, rfl, .inr (SqT.of h1), rfl, flat_strs ns, ?_⟩
    show Q (.bl (inV (.str n) (ns.map V.str))) H
    rw [inV_strs, has_names h3]
    exact k
theorem okH_contains (T : Txt K mg) : FnQ P w K mg base 1 T.a_Shelf_contains T.fd_Shelf_contains ["self", "value"] (spShIn T) := by
  refine Fun.okQ T.F_Shelf_contains sc_Shelf_contains (fun vs H Q E h => ?_) (fun cdv A outer s H vs Q p hr h => ?_)
  · obtain ⟨x, n, es, past, ahead, rfl, _⟩ := h; rfl
  · obtain ⟨x, n, es, past, ahead, rfl, hS, hn, k⟩ := h
    obtain ⟨dx, d, t, tp, ta, hx, hI⟩ := hS.fld
    obtain ⟨ns, h1, h2, h3⟩ := hI.nm
    refine ⟨_, pss_one (ps_ret (pe_and (pe_callB call_isi (by rfl) T.n_isinstance (by decide +kernel) (pa_cons (pv 1) (pa_cons (pe_bltn (v := .ty "str") (u := .type "str") (by rfl) T.n_str (by decide +kernel) rfl) (pa_nil)))) (pe_one (pe_cmpR op_in_seq (pv 1) (pe_fld (pv 0) rfl) rfl)))), ?_⟩
    refine ⟨_, rfl, .str n, .ty "str", .type "str", .type "str", true, rfl, .ty _, (NT.str (H := H) n).ty, kit_ty (by decide +kernel), _, rfl, iteT ?_⟩
    refine ⟨_, rfl, _, rfl, x, T.a_Shelf, dx, _, _, rfl, hx, T.scls, na_names T, rfl, t, _, rfl, .inr (SqT.of h1), rfl, flat_strs ns, ?_⟩
    show Q (.bl (inV (.str n) (ns.map V.str))) H
    rw [inV_strs, has_names h3]
    exact k
/-- the item of a name that is there -/
def spShGet (T : Txt K mg) : Sp := fun vs H Q _ => ∃ (x : Addr) (n : Str) (es : List Ent) (past ahead : List (List Ent)), vs = [.ref x, .str n] ∧ ShAt T H x es past ahead ∧ n.length ≤ 8 ∧ hasE es n = true ∧
  ∀ (e : Ent) (tt y : Addr), e ∈ es → e.n = n → H tt = some (.tup [.ref y, .int e.pr]) → WhE T H y e.tr e.p e.b e.a → Parts e.tr e.p e.b e.a → 0 ≤ e.pr ∧ e.pr ≤ 1000000000000 → Q (.ref tt) H
theorem ents_some2 {T : Txt K mg} {H : Hp} : ∀ {kvs : List (Key × V)} {es : List Ent} {n : Str}, PySem.Paired (EntAt T H) kvs es → hasE es n = true → ∃ kv e, e ∈ es ∧ e.n = n ∧ valV kvs (.inr n) = some kv.2 ∧ EntAt T H kv e := ents_some
theorem ok_Shelf_getitem (T : Txt K mg) : FnOk P w K mg base CX0 2 T.a_Shelf_getitem T.fd_Shelf_getitem ["self", "at"] (spShGet T) := by
  refine T.F_Shelf_getitem.ok sc_Shelf_getitem (fun vs H Q E h => ?_) (fun cdv A outer s H vs Q E hr h => ?_)
  · obtain ⟨x, n, es, past, ahead, rfl, _⟩ := h; rfl
  · obtain ⟨x, n, es, past, ahead, rfl, hS, hn, hh, k⟩ := h
    obtain ⟨dx, d, t, tp, ta, hx, hI⟩ := hS.fld
    obtain ⟨kvs, h1, h2, h3⟩ := hI.di
    obtain ⟨kv, e, m1, m2, m3, m4⟩ := ents_some h2 hh
    obtain ⟨tt, y, q1, q2, q3⟩ := m4.v
    refine ⟨_, pss_cons (ps_if (pt_cmpR (op_notInO (ok_Shelf_contains T) (hr.mono (by decide)) (b_Shelf_contains T) pass0 T.fi_in T.fn_in) (pv 1) (pv 0) rfl) (pss_one (ps_never)) (pss_nil))
      (pss_one (ps_ret (pe_dget (units1 hr.units) (pe_fld (pv 0) rfl) (pv 1) (fun _ _ => rfl)))), ?_⟩
    refine ⟨_, rfl, _, rfl, x, dx, _, rfl, hx, x, n, es, past, ahead, rfl, hS, hn, _, rfl, _, rfl, ?_⟩
    rw [hh]
    refine iteF ⟨_, rfl, x, T.a_Shelf, dx, _, _, rfl, hx, T.scls, na_items T, rfl, _, rfl, d, kv.2, rfl, m3 ▸ DGet.k (k := .inr n) h1, ?_⟩
    rw [q1]
    exact k e tt y m1 m2 q2 q3 m4.pa m4.pr

theorem okH_getitem (T : Txt K mg) : FnQ P w K mg base 2 T.a_Shelf_getitem T.fd_Shelf_getitem ["self", "at"] (spShGet T) := by
  refine Fun.okQ T.F_Shelf_getitem sc_Shelf_getitem (fun vs H Q E h => ?_) (fun cdv A outer s H vs Q p hr h => ?_)
  · obtain ⟨x, n, es, past, ahead, rfl, _⟩ := h; rfl
  · obtain ⟨x, n, es, past, ahead, rfl, hS, hn, hh, k⟩ := h
    obtain ⟨dx, d, t, tp, ta, hx, hI⟩ := hS.fld
    obtain ⟨kvs, h1, h2, h3⟩ := hI.di
    obtain ⟨kv, e, m1, m2, m3, m4⟩ := ents_some h2 hh
    obtain ⟨tt, y, q1, q2, q3⟩ := m4.v
    have hu : (A.deeper (envOfC "Shelf.__getitem__" (defScope s_Shelf_getitem) s.heap.objs.size T.a_Shelf_getitem cdv)).units + 1 < cLine := by have := hr.un; omega
    refine ⟨_, pss_cons (ps_if (pt_cmpR (op_notInQ (okH_contains T) (hr.mono (by decide)) (List.mem_cons_self (a := p) (l := [])) (b_Shelf_contains T) T.fi_in T.fn_in) (pv 1) (pv 0) rfl) (pss_one (ps_never)) (pss_nil))
      (pss_one (ps_ret (pe_dget hu (pe_fld (pv 0) rfl) (pv 1) (fun _ _ => rfl)))), ?_⟩
    refine ⟨_, rfl, _, rfl, x, dx, _, rfl, hx, x, n, es, past, ahead, rfl, hS, hn, _, rfl, _, rfl, ?_⟩
    rw [hh]
    refine iteF ⟨_, rfl, x, T.a_Shelf, dx, _, _, rfl, hx, T.scls, na_items T, rfl, _, rfl, d, kv.2, rfl, m3 ▸ DGet.k (k := .inr n) h1, ?_⟩
    rw [q1]
    exact k e tt y m1 m2 q2 q3 m4.pa m4.pr
def spShIter (T : Txt K mg) (n : Nat) : Sp := fun vs H Q _ => ∃ (x dx a : Addr) (d p q : V) (ws : List V), vs = [.ref x] ∧ H x = some (.ins T.a_Shelf dx (shFs d (.ref a) p q)) ∧ SqT K H a ws ∧ ∀ it, H it = Option.none → n ≤ it → Q (.ref it) (upd H it (ItTO a it))
theorem ok_Shelf_iter (T : Txt K mg) : FnN P w K mg base CX0 1 T.a_Shelf_iter (spShIter T) := by
  refine FnN.mk0 T.F_Shelf_iter sc_Shelf_iter (b_Shelf_iter T) (fun n vs H Q E h => ?_) (fun cdv A outer s H vs Q E hr h => ?_)
  · obtain ⟨x, dx, a, d, p, q, ws, rfl, _⟩ := h; rfl
  · obtain ⟨x, dx, a, d, p, q, ws, rfl, hx, hA, k⟩ := h
    refine ⟨_, pss_one (ps_ret (pe_callB call_iterT (by rfl) T.n_iter (by decide +kernel) (pa_cons (pe_fld (pv 0) rfl) (pa_nil)))), ?_⟩
    exact ⟨_, rfl, x, T.a_Shelf, dx, _, _, rfl, hx, T.scls, na_names T, rfl, a, ws, rfl, hA, k⟩
theorem sortedS_strict : ∀ {ys : List Str}, sortedS ys = true → ys.Nodup → ys.Pairwise (fun a b => a.cps.toList < b.cps.toList)
  | [], _, _ => .nil
  | x :: r, h, nd => by
    obtain ⟨n1, n2⟩ := List.nodup_cons.mp nd
    have go : ∀ {p : Str} {l : List Str}, risingS p l = true → sortedS l = true := fun {p l} h => by
      cases l with
      | nil => rfl
      | cons y l =>
        have h : (!ltCps y.cps.toList p.cps.toList && risingS y l) = true := h
        rw [Bool.and_eq_true] at h
        exact h.2
    have ih := sortedS_strict (go (show risingS x r = true from h)) n2
    refine List.pairwise_cons.mpr ⟨fun y hy => ?_, ih⟩
    cases r with
    | nil => cases hy
    | cons z r =>
      have h : (!ltCps z.cps.toList x.cps.toList && risingS z r) = true := h
      rw [Bool.and_eq_true, ltCps_eq] at h
      have h1 : ¬ z.cps.toList < x.cps.toList := fun q => by rw [decide_eq_true q] at h; cases h.1
      have xz : x.cps.toList < z.cps.toList := by
        by_cases q : x.cps.toList < z.cps.toList
        · exact q
        · exact absurd (str_of_cps (List.le_antisymm (List.not_lt.mp h1) (List.not_lt.mp q))) fun e => n1 (by rw [e]; exact List.mem_cons_self)
      rcases List.mem_cons.mp hy with rfl | hy
      · exact xz
      · exact List.lt_trans xz ((List.pairwise_cons.mp ih).1 y hy)
/-- the dict d is held: its names are laid in order -/
def spShHold (T : Txt K mg) : Sp := fun vs H Q _ => ∃ (x d dx : Addr) (es : List Ent) (vi vn vp va : V), vs = [.ref x, .ref d] ∧ H x = some (.ins T.a_Shelf dx (shFs vi vn vp va)) ∧ DictAt T H d es ∧
  ∀ (t : Addr) (H' : Hp), But x H H' → H' x = some (.ins T.a_Shelf dx (shFs (.ref d) (.ref t) vp va)) → t ≠ x → NamesAt H' t es → Q .non H'
theorem ok_Shelf_hold (T : Txt K mg) : FnOk P w K mg base CX0 1 T.a_Shelf_hold T.fd_Shelf_hold ["self", "items"] (spShHold T) := by
  refine T.F_Shelf_hold.ok sc_Shelf_hold (fun vs H Q E h => ?_) (fun cdv A outer s H vs Q E hr h => ?_)
  · obtain ⟨x, d, dx, es, vi, vn, vp, va, rfl, _⟩ := h; rfl
  · obtain ⟨x, d, dx, es, vi, vn, vp, va, rfl, hx, ⟨kvs, h1, h2, h3, h4⟩, k⟩ := h
    refine ⟨_, pss_cons (ps_fld (pv 0) (pv 1) rfl)
      (pss_one (ps_fld (pv 0) (pe_callTy call_tuple_of (by rfl) T.n_tuple (by decide +kernel) (pa_cons (pe_callB cr_sortedS (by rfl) T.n_sorted (by decide +kernel) (pa_cons (pe_callTy (call_listD rfl) (by rfl) T.n_list (by decide +kernel) (pa_cons (pv 1) pa_nil)) pa_nil)) pa_nil)) rfl)), ?_⟩
    refine ⟨_, rfl, _, rfl, x, T.a_Shelf, dx, _, rfl, hx, T.scls, na_items T, (by show 4 < 1000; decide), ?_⟩
    have nd : d ≠ x := fun z => by rw [z, hx] at h1; cases h1
    have hd1 : (upd H x (.ins T.a_Shelf dx (putF "_items" (.ref d) (shFs vi vn vp va)))) d = some (.dK kvs) := by rw [upd_ne nd]; exact h1
    have b1 : But x H (upd H x (.ins T.a_Shelf dx (putF "_items" (.ref d) (shFs vi vn vp va)))) := fun b o n e => by rw [upd_ne n]; exact e
    have hx1 : (upd H x (.ins T.a_Shelf dx (putF "_items" (.ref d) (shFs vi vn vp va)))) x = some (.ins T.a_Shelf dx (shFs (.ref d) vn vp va)) := upd_same
    generalize upd H x (.ins T.a_Shelf dx (putF "_items" (.ref d) (shFs vi vn vp va))) = G at hd1 b1 hx1 ⊢
    refine ⟨_, rfl, d, kvs, rfl, .inl hd1, fun l hl => ?_⟩
    rw [ents_keys h2]
    have sl := same_new (o := .lst ((es.map (·.n)).map V.str)) hl
    refine ⟨l, es.map (·.n), rfl, SqL.of upd_same, by rw [List.length_map]; omega, fun ys p pm hs hp => ?_⟩
    have sp := same_new (o := .lst (ys.map V.str)) hp
    refine ⟨p, _, rfl, .inl ⟨SqL.of upd_same, fun t ht => ?_⟩⟩
    have st := same_new (o := .tup (ys.map V.str)) ht
    have hx2 := st _ _ (sp _ _ (sl _ _ hx1))
    have tx : t ≠ x := fun z => by rw [z, sp _ _ (sl _ _ hx1)] at ht; cases ht
    refine ⟨_, rfl, x, T.a_Shelf, dx, _, rfl, hx2, T.scls, na_names T, (by show 4 < 1000; decide), ?_⟩
    refine k t _ (fun b o n e => ?_) upd_same tx ⟨ys, by rw [upd_ne tx, upd_same], sortedS_strict hs (pm.nodup_iff.mpr h3), pm⟩
    rw [upd_ne n]
    exact st _ _ (sp _ _ (sl _ _ (b1 _ _ n e)))
/-- the items of the dict d stand; what stood can be taken back -/
def spShDone (T : Txt K mg) : Sp := fun vs H Q _ => ∃ (x d : Addr) (es es' : List Ent) (past ahead : List (List Ent)), vs = [.ref x, .ref d] ∧ ShAt T H x es past ahead ∧ DictAt T H d es' ∧ past.length < 1000 ∧
  ∀ H', But x H H' → ShAt T H' x es' (past ++ [es]) [] → Q .non H'
theorem DictAt.ne {T : Txt K mg} {H : Hp} {d x : Addr} {es : List Ent} {C dx : Addr} {fs : List (Str × V)} (h : DictAt T H d es) (hx : H x = some (.ins C dx fs)) : d ≠ x := by
  obtain ⟨kvs, h1, _⟩ := h
  exact fun z => by rw [z, hx] at h1; cases h1
/-- what is no instance of a shelf is not told at x -/
theorem EntAt.del {T : Txt K mg} {H : Hp} {x dx : Addr} {v1 v2 v3 v4 : V} (hx : H x = some (.ins T.a_Shelf dx (shFs v1 v2 v3 v4))) {kv : Key × V} {e : Ent} (h : EntAt T H kv e) : EntAt T (del H x) kv e := by
  obtain ⟨t, y, q1, q2, ⟨C, f, c1, dy, q3⟩⟩ := h.v
  refine ⟨h.k, ⟨t, y, q1, del_at hx q2 (fun z => by cases z), ⟨C, f, c1, dy, del_at hx q3 fun z => ?_⟩⟩, h.pa, h.pr, h.nm⟩
  injection z with z1 z2 z3
  injection z3 with z4 z5
  injection z4 with z6 z7
  exact absurd z6 (by decide)
theorem ents_del {T : Txt K mg} {H : Hp} {x dx : Addr} {v1 v2 v3 v4 : V} (hx : H x = some (.ins T.a_Shelf dx (shFs v1 v2 v3 v4))) : ∀ {kvs : List (Key × V)} {es : List Ent}, PySem.Paired (EntAt T H) kvs es → PySem.Paired (EntAt T (del H x)) kvs es
  | _, _, .nil => .nil
  | _, _, .cons h t => .cons (h.del hx) (ents_del hx t)
theorem DictAt.del {T : Txt K mg} {H : Hp} {x dx d : Addr} {v1 v2 v3 v4 : V} {es : List Ent} (hx : H x = some (.ins T.a_Shelf dx (shFs v1 v2 v3 v4))) (h : DictAt T H d es) : DictAt T (del H x) d es := by
  obtain ⟨kvs, h1, h2, h3⟩ := h
  exact ⟨kvs, del_at hx h1 (fun z => by cases z), ents_del hx h2, h3⟩
theorem NamesAt.del {H : Hp} {x t : Addr} {u : HO} {es : List Ent} (hx : H x = some u) (nu : ∀ xs, u ≠ .tup xs) (h : NamesAt H t es) : NamesAt (del H x) t es := by
  obtain ⟨ns, h1, h2⟩ := h
  exact ⟨ns, del_at hx h1 (fun z => nu _ z.symm), h2⟩
theorem dicts_snoc {T : Txt K mg} {G : Hp} : ∀ {ds : List Addr} {ps : List (List Ent)} {d : Addr} {es : List Ent}, PySem.Paired (DictAt T G) ds ps → DictAt T G d es → PySem.Paired (DictAt T G) (ds ++ [d]) (ps ++ [es])
  | _, _, _, _, .nil, h => .cons h .nil
  | _, _, _, _, .cons x t, h => .cons x (dicts_snoc t h)
theorem ok_Shelf_done (T : Txt K mg) : FnOk P w K mg base CX0 2 T.a_Shelf_done T.fd_Shelf_done ["self", "items"] (spShDone T) := by
  refine T.F_Shelf_done.ok sc_Shelf_done (fun vs H Q E h => ?_) (fun cdv A outer s H vs Q E hr h => ?_)
  · obtain ⟨x, d, es, es', past, ahead, rfl, _⟩ := h; rfl
  · obtain ⟨x, d', es, es', past, ahead, rfl, ⟨dx, d, t, tp, ta, hx, hI⟩, hd', hpl, k⟩ := h
    refine ⟨_, pss_cons (ps_fld (pv 0) (pe_tup (StX.pa_star (pe_fld (pv 0) rfl) (pa_cons (pe_fld (pv 0) rfl) (pa_nil)))) rfl)
      (pss_cons (ps_fld (pv 0) (pe_tup (pa_nil)) rfl)
      (pss_one (ps_expr (pe_meth (pv 0) T.scls T.s_hold (ok_Shelf_hold T) (hr.mono (by decide)) (b_Shelf_hold T) .nil pass0 (pa_cons (pv 1) (pa_nil)))))), ?_⟩
    have hIH := hI.same del_sub
    obtain ⟨ds, p1, p2⟩ := hI.pa
    refine ⟨_, rfl, x, T.a_Shelf, dx, _, _, rfl, hx, T.scls, na_past T, rfl, tp, _, rfl, .inl (SqT.of (del_sub _ _ p1)), ?_⟩
    refine ⟨_, rfl, x, T.a_Shelf, dx, _, _, rfl, hx, T.scls, na_items T, rfl, ?_⟩
    refine ⟨by rw [List.length_append, List.length_map, paired_len p2, sizeLine_eq]; simp only [List.length_cons, List.length_nil]; omega, fun p hp => ?_⟩
    obtain ⟨b1, e1, m1⟩ := step_but (o := .tup (ds.map V.ref ++ [V.ref d])) hx hp (.ins T.a_Shelf dx (putF "_past" (.ref p) (shFs (.ref d) (.ref t) (.ref tp) (.ref ta))))
    refine ⟨_, rfl, x, T.a_Shelf, dx, _, rfl, (by rw [upd_ne (Ne.symm m1)]; exact hx), T.scls, na_past T, (by show 4 < 1000; decide), ?_⟩
    refine ⟨(by show 0 ≤ sizeLine; decide), fun q hq => ?_⟩
    obtain ⟨b2, e2, m2⟩ := step_but (o := .tup []) upd_same hq (.ins T.a_Shelf dx (putF "_ahead" (.ref q) (shFs (.ref d) (.ref t) (.ref p) (.ref ta))))
    refine ⟨_, rfl, x, T.a_Shelf, dx, _, rfl, (by rw [upd_ne (Ne.symm m2), upd_same]), T.scls, na_ahead T, (by show 4 < 1000; decide), ?_⟩
    have b12 := b1.trans b2
    have hd2 := (hd'.del hx).same b12.del
    refine ⟨_, rfl, x, dx, _, rfl, upd_same, rfl, _, rfl, x, d', dx, es', .ref d, .ref t, .ref p, .ref q, rfl, upd_same, hd2.same del_sub, fun t' H' bt hx' nt hN => ?_⟩
    have b := b12.trans bt
    refine k H' b ⟨dx, d', t', p, q, hx', ⟨(hd'.del hx).same b.del, hN.del hx' (fun _ z => by cases z), ⟨ds ++ [d], ?_, dicts_snoc (dicts_same b.del p2) (hI.di.same b.del)⟩, PastAt.nil ?_⟩⟩
    · rw [del_ne m1, List.map_append]
      exact bt _ _ m1 (b2 _ _ m1 e1)
    · rw [del_ne m2]
      exact bt _ _ m2 e2
theorem at_last {α : Type} (xs : List α) (x : α) : atI (xs ++ [x]) (-1) = some x := by
  unfold atI ixN
  rw [if_neg (by decide), List.length_append, List.length_singleton, if_pos (by omega)]
  show (xs ++ [x])[((-1 : Int) + ((xs.length + 1 : Nat) : Int)).toNat]? = some x
  rw [show ((-1 : Int) + ((xs.length + 1 : Nat) : Int)).toNat = xs.length by omega]
  simp
theorem six_last (xs : List V) (x : V) : HT.sIx (xs ++ [x]).length (xs ++ [x]).length (some (-1)) = xs.length := by
  show (if (-1 : Int) < 0 then ((-1 : Int) + ((xs ++ [x]).length : Int)).toNat else min (-1 : Int).toNat (xs ++ [x]).length) = _
  rw [if_pos (by decide), List.length_append, List.length_singleton]
  omega
theorem cut_last (xs : List V) (x : V) : cutV (xs ++ [x]) Option.none (some (-1)) = xs := by
  unfold cutV
  rw [six_last]
  show ((xs ++ [x]).drop 0).take (xs.length - 0) = xs
  rw [List.drop_zero, Nat.sub_zero, List.take_left']
  rfl
/-- what was done last is taken back -/
def spShUndo (T : Txt K mg) : Sp := fun vs H Q _ => ∃ (x : Addr) (es e1 : List Ent) (past ahead : List (List Ent)), vs = [.ref x] ∧ ShAt T H x es (past ++ [e1]) ahead ∧ ahead.length < 1000 ∧ past.length < 1000 ∧
  ∀ H', But x H H' → ShAt T H' x e1 past (ahead ++ [es]) → Q .non H'
theorem dicts_last {T : Txt K mg} {G : Hp} : ∀ {ds : List Addr} {ps : List (List Ent)} {es : List Ent}, PySem.Paired (DictAt T G) ds (ps ++ [es]) → ∃ ds' d, ds = ds' ++ [d] ∧ PySem.Paired (DictAt T G) ds' ps ∧ DictAt T G d es
  | _, [], _, .cons h .nil => ⟨[], _, rfl, .nil, h⟩
  | _, _ :: _, _, .cons h t => by
    obtain ⟨ds', d, rfl, h1, h2⟩ := dicts_last t
    exact ⟨_ :: ds', d, rfl, .cons h h1, h2⟩

/-- what the text has of the errors that are caught -/
structure Caught (T : Txt K mg) : Prop where
  exS : PySem.W.exmOne K (.ref T.bads.C) (.ref T.R) = some true
  exM : PySem.W.exmOne K (.ref T.tmany.C) (.ref T.R) = some true
  sbS : PySem.W.subIn K (.ref T.bads.C) (.type "BaseException") = some true
  sbM : PySem.W.subIn K (.ref T.tmany.C) (.type "BaseException") = some true
  exD : PySem.W.exmOne K (.ref T.badd.C) (.ref T.badd.C) = some true
  eD : ErrC K T.badd.C
  kR : PySem.W.kitOne K (.ref T.badd.C) (.ref T.R) = some true
  kV : PySem.W.kitOne K (.ref T.badd.C) (.type "ValueError") = some true
  kS : PySem.W.kitOne K (.ref T.badd.C) (.ref T.bads.C) = some false
/-- the rows one after another: the items, or the first row that is refused -/
def runR : Nat → List Ent → List (Option Ent) → Except Nat (List Ent)
  | _, es, [] => .ok es
  | i, _, Option.none :: _ => .error i
  | i, es, some e :: r => if fullE es e = true then .error i else runR (i + 1) (putE es e) r
/-- BadDeed of the row i -/
def ErrD (T : Txt K mg) (H : Hp) (E : XK) (i : Nat) : Prop := ∀ (dx : Addr) (H2 : Hp), Same H H2 → H dx = Option.none → H2 dx = some (.xd [("at", .int (i : Nat))]) → E (.ref T.badd.C) (some dx) H2
theorem none_up {H H' : Hp} (s : Same H H') {a : Addr} (h : H' a = Option.none) : H a = Option.none := by
  match q : H a with
  | Option.none => rfl
  | some o => rw [s _ _ q] at h; cases h
theorem ErrD.mono {T : Txt K mg} {H H' : Hp} {E : XK} {i : Nat} (s : Same H H') (h : ErrD T H E i) : ErrD T H' E i := fun dx H2 s2 hn h2 => h dx H2 (s.trans s2) (none_up s hn) h2
theorem rows_same {T : Txt K mg} {H H' : Hp} (s : Same H H') : ∀ {vs : List V} {os : List (Option Ent)}, PySem.Paired (RowV T H) vs os → PySem.Paired (RowV T H') vs os
  | _, _, .nil => .nil
  | _, _, .cons h t => .cons (h.same s) (rows_same s t)
theorem paired_get {α β : Type} {R : α → β → Prop} : ∀ {as : List α} {bs : List β} {i : Nat} {a : α}, PySem.Paired R as bs → as[i]? = some a → ∃ b, bs[i]? = some b ∧ R a b
  | _, _, _, _, .nil, h => by simp at h
  | _, _, 0, _, .cons x _, h => by cases h; exact ⟨_, rfl, x⟩
  | _, _, i + 1, _, .cons _ t, h => paired_get (i := i) t (by simpa using h)
/-- raise BadDeed(at) from why, in the suite of the clause that caught why -/
def tRaiseD (K : PySem.W.Frag) {mg : Str → Option Value} (B : BadD K mg) (i j : Nat) (a : Addr) (cls0 : Value) (W : WX) : TS := fun _ σ H => tMkO B.C (spInit1 K "at") [] (tCons (tVar j) tNil) σ H fun cls d H' => σ[i]? = some (some (.ref a)) ∧ PySem.W.subIn K cls0 (.type "BaseException") = some true ∧ W cls d σ H'
theorem ps_raiseD {X : Cx} (K : PySem.W.Frag) (mg : Str → Option Value) (hK : X.K = K) (hm : X.mg = mg) (B : BadD K mg) {W : WX} {i j : Nat} {a : Addr} {oe : Obj} {cls0 : Value} {x z : Str} {p1 p2 p3 p4 p5 : Pos} (hot : L2H.Hot1 X.A (a, oe)) (hp : (a, oe) ∈ X.pn) (hz0 : oe.cls = cls0) (tk : L2.Takes X W) (hr : L2H.RoomH 2 X.A) (hg : Gl X "BadDeed") (hN : X.N[i]? = some x) (hv : Vis X.env.scope x) (hNz : X.N[j]? = some z) (hvz : Vis X.env.scope z)
    (hdb : (x == ("__debug__" : Str)) = false) (hcd : (x == ("__classdict__" : Str)) = false) (hdz : (z == ("__debug__" : Str)) = false) (hcz : (z == ("__classdict__" : Str)) = false) :
    PS X (.Raise (some (.Call (.Name "BadDeed" p1) [.Name z p2] [] p3)) (some (.Name x p4)) p5) (tRaiseD K B i j a cls0 W) := by
  subst hK hm
  exact ps_raiseHP hot hp hz0 tk (pmk_badDH B hr ⟨_, hot, hp⟩ hg (pe_var hNz hvz hdz hcz)) hN hv hdb hcd
/-- the loop's body -/
def tbStock (T : Txt K mg) (E : XK) : TS := fun D σ H => tAsg (tCallS (spWithRow T) (WE (wAsX K (.ref T.R) 5 (fun a cls d => tRaiseD K T.badd 5 3 a cls (fun cls d _ H => E cls d H)) (fun cls d _ H => E cls d H) D)) (tCons (tVar 2) (tCons (tVar 4) tNil))) (gName 2) D σ H
def spStock (T : Txt K mg) : V → List V → Hp → VK → XK → Prop := fun a vs H Q E => ∃ (x : Addr) (es : List Ent) (past ahead : List (List Ent)) (os : List (Option Ent)), a = .ref x ∧ ShAt T H x es past ahead ∧ past.length < 1000 ∧ PySem.Paired (RowV T H) vs os ∧
  (∀ i, runR 0 es os = .error i → ErrD T H E i) ∧ (∀ es', runR 0 es os = .ok es' → ∀ H', But x H H' → ShAt T H' x es' (past ++ [es]) [] → Q .non H')
theorem ok_Shelf_stock (HP : PrF lawFile P) (T : Txt K mg) (W : Whl T) (B : Caught T) : FnR P w K mg base (L2.CX P w) 6 T.a_Shelf_stock (fun vs H Q E => ∃ a rest, vs = a :: rest ∧ rest.length ≤ sizeLine ∧ spStock T a rest H Q E) := by
  refine star1_okX T.F_Shelf_stock sc_Shelf_stock (fun _ _ _ _ _ _ a rest => by cases rest <;> rfl) fun cdv A outer s H a vs p H0 Q E hr h hvl hp0 eH => ?_
  obtain ⟨x, es, past, ahead, os, rfl, hS, hpl, hR, k1, k2⟩ := h
  have s0 : Same H0 H := eH ▸ same_new hp0
  have hp : H p = some (.tup vs) := by rw [eH, upd_same]
  clear eH
  refine ⟨_, pss_cons (ps_set (i := 2) sc_Shelf_stock.nd rfl (Or.inl rfl) (pe_fld (pv 0) rfl))
      (pss_cons (ps_for (passes_of rfl) rfl (pi_enum2 (by rfl) T.n_enumerate (pa_cons (pv 1) pa_nil)) (pg_tup rfl (pgs_cons (pg_name (i := 3) sc_Shelf_stock.nd rfl (Or.inl rfl)) (pgs_cons (pg_name (i := 4) sc_Shelf_stock.nd rfl (Or.inl rfl)) (pgs_nil)))) (pss_one (ps_try_asX (i := 5) (c := .ref T.R) rfl rfl rfl sc_Shelf_stock.nd rfl rfl ⟨rfl, by decide, .inl T.m_R⟩ (fun hd => L2H.passesAt_of rfl hd) (takes_of rfl rfl rfl rfl) (fun W1 pn xe tk _ => pss_one (ps_set (i := 2) sc_Shelf_stock.nd rfl (Or.inl rfl) (pe_callS (ok_with_row HP T W) (hr.mono (by decide)) rfl T.m_with_row T.F_with_row.kp (b_with_row T) (fun σ => L2N.passAt tk σ) (pa_cons (pv 2) (pa_cons (pv 4) pa_nil))))) (fun a oe cls d pn xe hz hd tk hot => pss_one (ps_raiseD K mg rfl rfl T.badd (i := 5) (j := 3) (x := "why") (z := "at") hot List.mem_cons_self hz.1 tk (L2H.roomH_mark (hr.mono (by decide)) _) rfl rfl (.inl rfl) rfl (.inl rfl) (by decide) (by decide) (by decide) (by decide))))))
      (pss_one (ps_expr (pe_meth (pv 0) T.scls T.s_done (ok_Shelf_done T) (hr.mono (by decide)) (b_Shelf_done T) .nil pass0 (pa_cons (pv 2) (pa_nil)))))), ?_⟩
  have hS1 := hS.same s0
  obtain ⟨dx, d, t, tp, ta, hx, hI⟩ := hS1.fld
  refine ⟨_, rfl, x, T.a_Shelf, dx, _, _, rfl, hx, T.scls, na_items T, rfl, ?_⟩
  refine ⟨_, rfl, p, vs, rfl, .inr ⟨SqT.of hp, for_enumT (K := K) (tb := tbStock T E) (a := p) (xs := vs) (fun i σ H' => ∃ (di : Addr) (x3 x4 : Option V) (ei : List Ent), σ = [some (.ref x), some (.ref p), some (.ref di), x3, x4, Option.none] ∧ Same H H' ∧ DictAt T H' di ei ∧ runR 0 es os = runR i ei (os.drop i))
    ⟨d, Option.none, Option.none, es, rfl, fun _ _ e => e, hI.di, rfl⟩ (fun i σ H' _ h => ?_) ?_ ?_⟩⟩
  · obtain ⟨_, _, _, _, _, s1, _⟩ := h
    exact SqT.of (s1 _ _ hp)
  · rintro i v σ H' Tt hv ⟨di, x3, x4, ei, rfl, s1, hdi, hrun⟩ hT
    have sT := same_new (o := .tup [.int (i : Nat), v]) hT
    refine ⟨Tt, _, rfl, SqT.of upd_same, rfl, _, _, rfl, _, _, rfl, rfl, ?_⟩
    obtain ⟨o, ho, hRv⟩ := paired_get hR hv
    have s2 := (s0.trans s1).trans sT
    have hRv := hRv.same s2
    have hdi := hdi.same sT
    have hdr : os.drop i = o :: os.drop (i + 1) := by
      have hlt : i < os.length := by
        rcases Nat.lt_or_ge i os.length with q | q
        · exact q
        · rw [List.getElem?_eq_none q] at ho; cases ho
      rw [List.drop_eq_getElem_cons hlt]
      rw [List.getElem?_eq_getElem hlt] at ho
      rw [Option.some.inj ho]
    rw [hdr] at hrun
    have hEi : ∀ j, runR 0 es os = .error j → ErrD T (upd H' Tt (.tup [.int (i : Nat), v])) E j := fun j e => (k1 j e).mono s2
    have sH := s1.trans sT
    clear k1 hR sT hT
    generalize upd H' Tt (.tup [.int (i : Nat), v]) = G at s2 hRv hdi hEi sH ⊢
    have fin : runR 0 es os = .error i → ErrR T G (fun cls d H2 => wAsX K (.ref T.R) 5 (fun a cls d => tRaiseD K T.badd 5 3 a cls (fun cls d _ H => E cls d H)) (fun cls d _ H => E cls d H) { nx := fun σ H' => ∃ (di : Addr) (x3 x4 : Option V) (ei : List Ent), σ = [some (.ref x), some (.ref p), some (.ref di), x3, x4, Option.none] ∧ Same H H' ∧ DictAt T H' di ei ∧ runR 0 es os = runR (i + 1) ei (os.drop (i + 1)), rt := fun _ _ => False } cls d [some (.ref x), some (.ref p), some (.ref di), some (.int (i : Nat)), some v, Option.none] H2) := by
      intro he C hC dx2 fs H2 s3 hn h3
      have facts : PySem.W.exmOne K (.ref C) (.ref T.R) = some true ∧ PySem.W.subIn K (.ref C) (.type "BaseException") = some true := by
        simp only [List.mem_cons, List.not_mem_nil, or_false] at hC
        rcases hC with rfl | rfl
        · exact ⟨B.exS, B.sbS⟩
        · exact ⟨B.exM, B.sbM⟩
      refine ⟨true, facts.1, fun _ a ha => ?_, fun z => nomatch z⟩
      refine ⟨_, rfl, (by show 1 ≤ 1000; decide), fun a2 ha2 => bad_fin1 (Q := fun cls' d' H' => (([some (V.ref x), some (.ref p), some (.ref di), some (.int (i : Nat)), some v, Option.none] : L2.St).set 5 (some (.ref a)))[5]? = some (some (.ref a)) ∧ PySem.W.subIn K (.ref C) (.type "BaseException") = some true ∧ E cls' d' H') T.badd.oex T.badd.no ha2 fun d4 H4 s4 hn4 h4 => ⟨rfl, facts.2, ?_⟩⟩
      exact hEi i he d4 H4 (s3.trans s4) (none_up s3 hn4) h4
    refine ⟨_, rfl, _, rfl, di, ei, v, o, rfl, hdi, hRv, fun z => ?_, fun e z f => ?_, fun e z f d' H' s' hd' => ?_⟩
    · subst z
      exact fin (hrun.trans rfl)
    · subst z
      exact fin (hrun.trans (by show (if fullE ei e = true then Except.error i else _) = _; rw [if_pos f]))
    · subst z
      refine ⟨d', _, _, putE ei e, rfl, sH.trans s', hd', hrun.trans ?_⟩
      show (if fullE ei e = true then Except.error i else runR (i + 1) (putE ei e) _) = _
      rw [if_neg (by rw [f]; exact Bool.false_ne_true)]
  · rintro σ H' ⟨di, x3, x4, ei, rfl, s1, hdi, hrun⟩
    have hok : runR 0 es os = .ok ei := by
      rw [hrun, List.drop_eq_nil_of_le (by rw [paired_len hR]; exact Nat.le_refl _)]
      rfl
    have hS2 := hS1.same s1
    refine ⟨_, rfl, x, dx, _, rfl, s1 _ _ hx, rfl, _, rfl, x, di, es, ei, past, ahead, rfl, hS2, hdi, hpl, fun H2 b2 hS3 => ?_⟩
    exact k2 ei hok H2 ((But.of (s0.trans s1)).trans b2) hS3

/-- one name's item is set -/
def spShSet (T : Txt K mg) : Sp := fun vs H Q _ => ∃ (x tt y : Addr) (e : Ent) (es : List Ent) (past ahead : List (List Ent)), vs = [.ref x, .str e.n, .ref tt] ∧ ShAt T H x es past ahead ∧ past.length < 1000 ∧ H tt = some (.tup [.ref y, .int e.pr]) ∧ WhE T H y e.tr e.p e.b e.a ∧ Parts e.tr e.p e.b e.a ∧ (0 ≤ e.pr ∧ e.pr ≤ 1000000000000) ∧ nameB (.str e.n) = true ∧ fullE es e = false ∧
  ∀ H', But x H H' → ShAt T H' x (putE es e) (past ++ [es]) [] → Q .non H'
theorem ok_Shelf_setitem (HP : PrF lawFile P) (T : Txt K mg) (W : Whl T) : FnOk P w K mg base (L2N.CX P w) 4 T.a_Shelf_setitem T.fd_Shelf_setitem ["self", "at", "worth"] (spShSet T) := by
  refine Fun.okN T.F_Shelf_setitem sc_Shelf_setitem (fun vs H Q E h => ?_) (fun cdv A outer s H vs Q E hr h => ?_)
  · obtain ⟨x, tt, y, e, es, past, ahead, rfl, _⟩ := h; rfl
  · obtain ⟨x, tt, y, e, es, past, ahead, rfl, hS, hpl, htt, hw, hpa, hpr, hnm, hfu, k⟩ := h
    refine ⟨_, pss_one (ps_expr (pe_meth (pv 0) T.scls T.s_done (ok_Shelf_done T) (hr.mono (by decide)) (b_Shelf_done T) .nil pass0 (pa_cons (pe_call (ok_with_item HP T W) (hr.mono (by decide)) rfl T.m_with_item T.F_with_item.kp (b_with_item T) .nil (L2N.passes_call (L2N.takes_of rfl rfl rfl rfl) (fun _ _ _ _ h => h)) (pa_cons (pe_fld (pv 0) rfl) (pa_cons (pv 1) (pa_cons (pv 2) (pa_nil))))) (pa_nil)))), ?_⟩
    obtain ⟨dx, d, t, tp, ta, hx, hI⟩ := hS.fld
    refine ⟨_, rfl, x, dx, _, rfl, hx, rfl, _, rfl, x, T.a_Shelf, dx, _, _, rfl, hx, T.scls, na_items T, rfl, _, rfl, _, rfl, d, tt, es, .str e.n, .ref y, .int e.pr, some e, rfl, hI.di, htt, .good e hnm hw hpa hpr, (fun z => nomatch z), (fun e' z f => ?_), (fun e' z f d' H' s' hd' => ?_)⟩
    · cases z; rw [hfu] at f; cases f
    · cases z
      refine ⟨x, d', es, putE es e, past, ahead, rfl, hS.same s', hd', hpl, fun H2 b2 hS2 => ?_⟩
      exact k H2 ((But.of s').trans b2) hS2
/-- a second shelf of the same items -/
def spShTwin (T : Txt K mg) : Sp := fun vs H Q _ => ∃ (x : Addr) (es : List Ent) (past ahead : List (List Ent)), vs = [.ref x] ∧ ShAt T H x es past ahead ∧ ∀ (z : Addr) (H' : Hp), Same H H' → H z = Option.none → ShAt T H' z es [] [] → Q (.ref z) H'
theorem ok_Shelf_twin (T : Txt K mg) : FnOk P w K mg base CX0 3 T.a_Shelf_twin T.fd_Shelf_twin ["self"] (spShTwin T) := by
  refine T.F_Shelf_twin.ok sc_Shelf_twin (fun vs H Q E h => ?_) (fun cdv A outer s H vs Q E hr h => ?_)
  · obtain ⟨x, es, past, ahead, rfl, _⟩ := h; rfl
  · obtain ⟨x, es, past, ahead, rfl, hS, k⟩ := h
    refine ⟨_, pss_cons (ps_set (i := 1) sc_Shelf_twin.nd rfl (Or.inl rfl) (pe_make0 T.smk (ok_Shelf_init T) (hr.mono (by decide)) rfl T.m_Shelf (b_Shelf_init T) .nil pass0))
      (pss_cons (ps_expr (pe_meth (pv 1) T.scls T.s_hold (ok_Shelf_hold T) (hr.mono (by decide)) (b_Shelf_hold T) .nil pass0 (pa_cons (pe_fld (pv 0) rfl) (pa_nil))))
      (pss_one (ps_ret (pv 1)))), ?_⟩
    obtain ⟨dx, d, t, tp, ta, hx, hI⟩ := hS.fld
    intro z dz hz hdz ne
    refine ⟨z, dz, rfl, upd_same, fun G1 b1 hS1 => ⟨rfl, ?_⟩⟩
    have s0 : Same H (upd (upd H dz (.own z)) z (.ins T.a_Shelf dz [])) := (same_new hdz).trans (same_new (by rw [upd_ne (Ne.symm ne)]; exact hz))
    have toG : ∀ {b : Addr} {o : HO}, H b = some o → G1 b = some o := fun h => b1 _ _ (ne_of_none h hz) (s0 _ _ h)
    have sG : Same H G1 := fun _ _ h => toG h
    obtain ⟨dz1, d0, t0, tp0, ta0, hz1, hI1⟩ := hS1
    refine ⟨_, rfl, z, dz1, _, rfl, hz1, rfl, _, rfl, x, T.a_Shelf, dx, _, _, rfl, toG hx, T.scls, na_items T, rfl, z, d, dz1, es, _, _, _, _, rfl, hz1, hI.di.same sG, fun t' H' bt hz' nt hN => ?_⟩
    have sH : Same H H' := fun b o h => bt _ _ (ne_of_none h hz) (toG h)
    have hdi : DictAt T (del H' z) d es := hI.di.same fun b o h => by rw [del_ne (ne_of_none h hz)]; exact sH _ _ h
    exact ⟨_, rfl, k z H' sH hz ⟨dz1, d, t', tp0, ta0, hz', ⟨hdi, hN.del hz' (fun _ y => by cases y), hI1.pa.same bt.del, hI1.ah.same bt.del⟩⟩⟩

/-- what was done last is taken back, or Nothing -/
def spShUndo2 (T : Txt K mg) : Sp := fun vs H Q E => ∃ (x : Addr) (es : List Ent) (past ahead : List (List Ent)), vs = [.ref x] ∧ ShAt T H x es past ahead ∧ ahead.length < 1000 ∧ past.length < 1000 ∧ (past = [] → E (.ref T.noth.C) Option.none H) ∧
  ∀ p e1, past = p ++ [e1] → ∀ H', But x H H' → ShAt T H' x e1 p (ahead ++ [es]) → Q .non H'
theorem ok_Shelf_undo (T : Txt K mg) : FnOk P w K mg base (L2N.CX P w) 2 T.a_Shelf_undo T.fd_Shelf_undo ["self"] (spShUndo2 T) := by
  refine Fun.okN T.F_Shelf_undo sc_Shelf_undo (fun vs H Q E h => ?_) (fun cdv A outer s H vs Q E hr h => ?_)
  · obtain ⟨x, es, past, ahead, rfl, _⟩ := h; rfl
  · obtain ⟨x, es, past0, ahead, rfl, ⟨dx, d, t, tp, ta, hx, hI⟩, hal, hpl, kE, k0⟩ := h
    refine ⟨_, pss_cons (ps_if (pt_not (pt_truth (pe_fld (pv 0) rfl) (fun _ => rfl))) (pss_one (L2N.ps_raise rfl (L2N.takes_of rfl rfl rfl rfl) (pmk_own0N PySem.F.excBase_ValueError T.noth.ex T.noth.m T.noth.kp (raises_own T.noth.sb T.noth.ty) rfl))) (pss_nil))
      (pss_cons (ps_fld (pv 0) (pe_tup (StX.pa_star (pe_fld (pv 0) rfl) (pa_cons (pe_fld (pv 0) rfl) (pa_nil)))) rfl)
      (pss_cons (ps_expr (pe_meth (pv 0) T.scls T.s_hold (ok_Shelf_hold T) (hr.mono (by decide)) (b_Shelf_hold T) .nil pass0 (pa_cons (pe_ix ix_tup (pe_fld (pv 0) rfl) (pe_un un_neg (pe_int)) (fun _ _ => rfl)) (pa_nil))))
      (pss_one (ps_fld (pv 0) (pe_slice sl_tupA (pe_fld (pv 0) rfl) (po_none) (po_some (pe_un un_neg (pe_int)))) rfl)))), ?_⟩
    rcases List.eq_nil_or_concat past0 with hq | ⟨past, e1, hq⟩
    · subst hq
      obtain ⟨ds0, p1, p2⟩ := hI.pa
      cases p2
      exact ⟨_, rfl, x, T.a_Shelf, dx, _, _, rfl, hx, T.scls, na_past T, rfl, false, .inr (.inl ⟨_, SqT.of (del_sub _ _ p1), rfl⟩), iteT (kE rfl)⟩
    rw [List.concat_eq_append] at hq
    subst hq
    have k := k0 past e1 rfl
    clear k0 kE
    obtain ⟨ds0, p1, p2⟩ := hI.pa
    obtain ⟨ds, dl, rfl, p3, p4⟩ := dicts_last p2
    obtain ⟨as, a1, a2⟩ := hI.ah
    have hp1 := del_sub _ _ p1
    have ha1 := del_sub _ _ a1
    have ha1 := del_sub _ _ a1
    refine ⟨_, rfl, x, T.a_Shelf, dx, _, _, rfl, hx, T.scls, na_past T, rfl, true, .inr (.inl ⟨_, SqT.of hp1, by simp⟩), iteF ?_⟩
    refine ⟨_, rfl, x, T.a_Shelf, dx, _, _, rfl, hx, T.scls, na_ahead T, rfl, ta, _, rfl, .inl (SqT.of ha1), ?_⟩
    refine ⟨_, rfl, x, T.a_Shelf, dx, _, _, rfl, hx, T.scls, na_items T, rfl, ?_⟩
    refine ⟨by rw [List.length_append, List.length_map, paired_len a2, sizeLine_eq]; simp only [List.length_cons, List.length_nil]; omega, fun p hp => ?_⟩
    obtain ⟨b1, e1', m1⟩ := step_but (o := .tup (as.map V.ref ++ [V.ref d])) hx hp (.ins T.a_Shelf dx (putF "_ahead" (.ref p) (shFs (.ref d) (.ref t) (.ref tp) (.ref ta))))
    refine ⟨_, rfl, x, T.a_Shelf, dx, _, rfl, (by rw [upd_ne (Ne.symm m1)]; exact hx), T.scls, na_ahead T, (by show 4 < 1000; decide), ?_⟩
    have n2 : tp ≠ x := fun z => by rw [z, hx] at hp1; cases hp1
    have hp2 := b1 _ _ n2 hp1
    have hx2 : (upd (upd H p (.tup (as.map V.ref ++ [V.ref d]))) x (.ins T.a_Shelf dx (putF "_ahead" (.ref p) (shFs (.ref d) (.ref t) (.ref tp) (.ref ta))))) x = some (.ins T.a_Shelf dx (shFs (.ref d) (.ref t) (.ref tp) (.ref p))) := upd_same
    generalize upd (upd H p (.tup (as.map V.ref ++ [V.ref d]))) x (.ins T.a_Shelf dx (putF "_ahead" (.ref p) (shFs (.ref d) (.ref t) (.ref tp) (.ref ta)))) = G at b1 e1' hp2 hx2 ⊢
    rw [List.map_append, List.map_cons, List.map_nil] at hp2
    have hdl := p4.same b1.del
    refine ⟨_, rfl, x, dx, _, rfl, hx2, rfl, _, rfl, x, T.a_Shelf, dx, _, _, rfl, hx2, T.scls, na_past T, rfl, _, rfl, tp, _, -1, _, rfl, rfl, SqT.of hp2, at_last _ _, x, dl, dx, e1, _, _, _, _, rfl, hx2, hdl.same del_sub, fun t' H' bt hx' nt hN => ?_⟩
    have hp3 := bt _ _ n2 hp2
    refine ⟨_, rfl, x, T.a_Shelf, dx, _, _, rfl, hx', T.scls, na_past T, rfl, ?_⟩
    refine ⟨_, rfl, _, rfl, tp, _, rfl, SqT.of hp3, fun z => ?_, fun _ q hq => ?_⟩
    · have z := z.2
      rw [six_last, List.length_append, List.length_singleton] at z
      omega
    · rw [cut_last]
      obtain ⟨b2, e2, m2⟩ := step_but (o := .tup (ds.map V.ref)) hx' hq (.ins T.a_Shelf dx (putF "_past" (.ref q) (shFs (.ref dl) (.ref t') (.ref tp) (.ref p))))
      refine ⟨_, rfl, x, T.a_Shelf, dx, _, rfl, (by rw [upd_ne (Ne.symm m2)]; exact hx'), T.scls, na_past T, (by show 4 < 1000; decide), ?_⟩
      have b := (b1.trans bt).trans b2
      refine k _ b ⟨dx, dl, t', q, p, upd_same, ⟨p4.same b.del, (hN.del hx' (fun _ z => by cases z)).same b2.del, ⟨ds, ?_, dicts_same b.del p3⟩, ⟨as ++ [d], ?_, dicts_snoc (dicts_same b.del a2) (hI.di.same b.del)⟩⟩⟩
      · rw [del_ne m2]
        exact e2
      · rw [del_ne m1, List.map_append]
        exact b2 _ _ m1 (bt _ _ m1 e1')

/-- what was taken back last is done again, or Nothing -/
def spShRedo (T : Txt K mg) : Sp := fun vs H Q E => ∃ (x : Addr) (es : List Ent) (past ahead : List (List Ent)), vs = [.ref x] ∧ ShAt T H x es past ahead ∧ ahead.length < 1000 ∧ past.length < 1000 ∧ (ahead = [] → E (.ref T.noth.C) Option.none H) ∧
  ∀ p e1, ahead = p ++ [e1] → ∀ H', But x H H' → ShAt T H' x e1 (past ++ [es]) p → Q .non H'
theorem ok_Shelf_redo (T : Txt K mg) : FnOk P w K mg base (L2N.CX P w) 2 T.a_Shelf_redo T.fd_Shelf_redo ["self"] (spShRedo T) := by
  refine Fun.okN T.F_Shelf_redo sc_Shelf_redo (fun vs H Q E h => ?_) (fun cdv A outer s H vs Q E hr h => ?_)
  · obtain ⟨x, es, past, ahead, rfl, _⟩ := h; rfl
  · obtain ⟨x, es, past, ahead0, rfl, ⟨dx, d, t, tp, ta, hx, hI⟩, hal, hpl, kE, k0⟩ := h
    refine ⟨_, pss_cons (ps_if (pt_not (pt_truth (pe_fld (pv 0) rfl) (fun _ => rfl))) (pss_one (L2N.ps_raise rfl (L2N.takes_of rfl rfl rfl rfl) (pmk_own0N PySem.F.excBase_ValueError T.noth.ex T.noth.m T.noth.kp (raises_own T.noth.sb T.noth.ty) rfl))) (pss_nil))
      (pss_cons (ps_fld (pv 0) (pe_tup (StX.pa_star (pe_fld (pv 0) rfl) (pa_cons (pe_fld (pv 0) rfl) (pa_nil)))) rfl)
      (pss_cons (ps_expr (pe_meth (pv 0) T.scls T.s_hold (ok_Shelf_hold T) (hr.mono (by decide)) (b_Shelf_hold T) .nil pass0 (pa_cons (pe_ix ix_tup (pe_fld (pv 0) rfl) (pe_un un_neg (pe_int)) (fun _ _ => rfl)) (pa_nil))))
      (pss_one (ps_fld (pv 0) (pe_slice sl_tupA (pe_fld (pv 0) rfl) (po_none) (po_some (pe_un un_neg (pe_int)))) rfl)))), ?_⟩
    rcases List.eq_nil_or_concat ahead0 with hq | ⟨ahead, e1, hq⟩
    · subst hq
      obtain ⟨ds0, p1, p2⟩ := hI.ah
      cases p2
      exact ⟨_, rfl, x, T.a_Shelf, dx, _, _, rfl, hx, T.scls, na_ahead T, rfl, false, .inr (.inl ⟨_, SqT.of (del_sub _ _ p1), rfl⟩), iteT (kE rfl)⟩
    rw [List.concat_eq_append] at hq
    subst hq
    have k := k0 ahead e1 rfl
    clear k0 kE
    obtain ⟨ds0, p1, p2⟩ := hI.ah
    obtain ⟨ds, dl, rfl, p3, p4⟩ := dicts_last p2
    obtain ⟨as, a1, a2⟩ := hI.pa
    have hp1 := del_sub _ _ p1
    have ha1 := del_sub _ _ a1
    refine ⟨_, rfl, x, T.a_Shelf, dx, _, _, rfl, hx, T.scls, na_ahead T, rfl, true, .inr (.inl ⟨_, SqT.of hp1, by simp⟩), iteF ?_⟩
    refine ⟨_, rfl, x, T.a_Shelf, dx, _, _, rfl, hx, T.scls, na_past T, rfl, tp, _, rfl, .inl (SqT.of ha1), ?_⟩
    refine ⟨_, rfl, x, T.a_Shelf, dx, _, _, rfl, hx, T.scls, na_items T, rfl, ?_⟩
    refine ⟨by rw [List.length_append, List.length_map, paired_len a2, sizeLine_eq]; simp only [List.length_cons, List.length_nil]; omega, fun p hp => ?_⟩
    obtain ⟨b1, e1', m1⟩ := step_but (o := .tup (as.map V.ref ++ [V.ref d])) hx hp (.ins T.a_Shelf dx (putF "_past" (.ref p) (shFs (.ref d) (.ref t) (.ref tp) (.ref ta))))
    refine ⟨_, rfl, x, T.a_Shelf, dx, _, rfl, (by rw [upd_ne (Ne.symm m1)]; exact hx), T.scls, na_past T, (by show 4 < 1000; decide), ?_⟩
    have n2 : ta ≠ x := fun z => by rw [z, hx] at hp1; cases hp1
    have hp2 := b1 _ _ n2 hp1
    have hx2 : (upd (upd H p (.tup (as.map V.ref ++ [V.ref d]))) x (.ins T.a_Shelf dx (putF "_past" (.ref p) (shFs (.ref d) (.ref t) (.ref tp) (.ref ta))))) x = some (.ins T.a_Shelf dx (shFs (.ref d) (.ref t) (.ref p) (.ref ta))) := upd_same
    generalize upd (upd H p (.tup (as.map V.ref ++ [V.ref d]))) x (.ins T.a_Shelf dx (putF "_past" (.ref p) (shFs (.ref d) (.ref t) (.ref tp) (.ref ta)))) = G at b1 e1' hp2 hx2 ⊢
    rw [List.map_append, List.map_cons, List.map_nil] at hp2
    have hdl := p4.same b1.del
    refine ⟨_, rfl, x, dx, _, rfl, hx2, rfl, _, rfl, x, T.a_Shelf, dx, _, _, rfl, hx2, T.scls, na_ahead T, rfl, _, rfl, ta, _, -1, _, rfl, rfl, SqT.of hp2, at_last _ _, x, dl, dx, e1, _, _, _, _, rfl, hx2, hdl.same del_sub, fun t' H' bt hx' nt hN => ?_⟩
    have hp3 := bt _ _ n2 hp2
    refine ⟨_, rfl, x, T.a_Shelf, dx, _, _, rfl, hx', T.scls, na_ahead T, rfl, ?_⟩
    refine ⟨_, rfl, _, rfl, ta, _, rfl, SqT.of hp3, fun z => ?_, fun _ q hq => ?_⟩
    · have z := z.2
      rw [six_last, List.length_append, List.length_singleton] at z
      omega
    · rw [cut_last]
      obtain ⟨b2, e2, m2⟩ := step_but (o := .tup (ds.map V.ref)) hx' hq (.ins T.a_Shelf dx (putF "_ahead" (.ref q) (shFs (.ref dl) (.ref t') (.ref p) (.ref ta))))
      refine ⟨_, rfl, x, T.a_Shelf, dx, _, rfl, (by rw [upd_ne (Ne.symm m2)]; exact hx'), T.scls, na_ahead T, (by show 4 < 1000; decide), ?_⟩
      have b := (b1.trans bt).trans b2
      refine k _ b ⟨dx, dl, t', p, q, upd_same, ⟨p4.same b.del, (hN.del hx' (fun _ z => by cases z)).same b2.del, ⟨as ++ [d], ?_, dicts_snoc (dicts_same b.del a2) (hI.di.same b.del)⟩, ⟨ds, ?_, dicts_same b.del p3⟩⟩⟩
      · rw [del_ne m1, List.map_append]
        exact b2 _ _ m1 (bt _ _ m1 e1')
      · rw [del_ne m2]
        exact e2

/-! ### the draws -/
def spPen (K : PySem.W.Frag) : Sp := fun vs H Q _ => ∃ (a : Addr) (ns : List Int), vs = [.ref a] ∧ SqL K H a (ns.map V.int) ∧ ns.length ≤ 63 ∧ ∀ (p : Addr) (H' : Hp), Same H H' → Pen H' p 0 → Q (.ref p) H'
theorem ok_pen (T : Txt K mg) : FnOk P w K mg base CX0 1 T.a_pen T.fd_pen ["_law_script"] (spPen K) := by
  refine T.F_pen.ok sc_pen (fun vs H Q E h => ?_) (fun cdv A outer s H vs Q E hr h => ?_)
  · obtain ⟨a, ns, rfl, _⟩ := h; rfl
  · obtain ⟨a, ns, rfl, hS, hl, k⟩ := h
    refine ⟨_, pss_one (ps_ret (pe_lst (pa_cons (pe_callTy call_list_of (by rfl) T.n_list (by decide +kernel) (pa_cons (pe_slice sl_list (pv 0) (po_none) (po_some (pe_int))) (pa_nil))) (pa_cons (pe_int) (pa_cons (pe_int) (pa_nil)))))), ?_⟩
    obtain ⟨ms, em, lm⟩ := cut_ints ns none (some 63)
    refine ⟨_, rfl, _, rfl, a, _, rfl, hS, fun q hq => ?_⟩
    refine ⟨q, _, rfl, .inl (SqL.of upd_same), fun l hl => ?_⟩
    refine ⟨(by show 3 ≤ sizeLine; decide), fun p hp => k p _ ?_ ?_⟩
    · exact (same_new hq).trans ((same_new hl).trans (same_new hp))
    · refine ⟨l, ms, 0, 0, upd_same, ?_, by omega, by omega, by omega, by omega⟩
      rw [upd_ne (ne_of_none upd_same hp), upd_same, em]
def spDraw : Sp := fun vs H Q _ => ∃ (p : Addr) (m : Int) (n : Nat), vs = [.ref p, .int m] ∧ 0 < m ∧ m < 1267650600228229401496703205376 ∧ Pen H p n ∧ n < 100000 ∧ ∀ (r : Int) (H' : Hp), 0 ≤ r → r < m → Pen H' p (n + 1) → Fr p H H' → Q (.int r) H'
theorem ok_draw (T : Txt K mg) : FnOk P w K mg base CX0 1 T.a_draw T.fd_draw ["_law_pen_here", "_law_many"] spDraw := by
  refine T.F_draw.ok sc_draw (fun vs H Q E h => ?_) (fun cdv A outer s H vs Q E hr h => ?_)
  · obtain ⟨p, m, n, rfl, _⟩ := h; rfl
  · obtain ⟨p, m, n, rfl, hm, hm2, ⟨c, ns, i, g, hp, hc, i0, i1, g0, hl⟩, hn, k⟩ := h
    have cp : c ≠ p := pen_ne hp hc
    have mb : m.natAbs < 2 ^ 100 := by omega
    refine ⟨_, pss_cons (ps_if (pt_cmpR op_gt (pe_ix ix_list (pv 0) (pe_int) (fun _ _ => rfl)) (pe_int) (nomark _)) (pss_cons (ps_set (i := 2) sc_draw.nd rfl (Or.inl rfl) (pe_op op_modN (pe_callTy call_int1 (by rfl) T.n_int (by decide +kernel) (pa_cons (pe_ix ix_list (pv 0) (pe_int) (fun _ _ => rfl)) (pa_nil))) (pv 1)))
      (pss_cons (ps_asg (pe_op op_fdivW (pe_callTy call_int1 (by rfl) T.n_int (by decide +kernel) (pa_cons (pe_ix ix_list (pv 0) (pe_int) (fun _ _ => rfl)) (pa_nil))) (pv 1)) (pg_sub (pv 0) (pe_int) set_list))
      (pss_one (ps_ret (pv 2))))) (pss_nil))
      (pss_cons (ps_set (i := 3) sc_draw.nd rfl (Or.inl rfl) (pe_ix ix_list (pv 0) (pe_int) (fun _ _ => rfl)))
      (pss_cons (ps_asg (pe_op op_add (pv 3) (pe_int)) (pg_sub (pv 0) (pe_int) set_list))
      (pss_cons (ps_set (i := 4) sc_draw.nd rfl (Or.inl rfl) (pe_op op_add (pe_op op_mul (pe_int) (pv 3)) (pe_int)))
      (C8.pss_cut (ps_if (pt_cmpR (op_neD hr.units) (pe_ix ix_list (pv 0) (pe_int) (fun _ _ => rfl)) (pe_lst (pa_nil)) (nomark _)) (pss_one (ps_set (i := 4) sc_draw.nd rfl (Or.inl rfl) (pe_ix ix_list (pe_ix ix_list (pv 0) (pe_int) (fun _ _ => rfl)) (pe_op op_modN (pe_callTy call_int1 (by rfl) T.n_int (by decide +kernel) (pa_cons (pv 3) (pa_nil))) (pe_callB call_len_seq (by rfl) T.n_len (by decide +kernel) (pa_cons (pe_ix ix_list (pv 0) (pe_int) (fun _ _ => rfl)) (pa_nil)))) (fun _ _ => rfl)))) (pss_nil))
      (C8.pss_cut (ps_if (PW.pt (pw_and (pt_cmpR op_lt (pv 3) (pe_callB call_len_seq (by rfl) T.n_len (by decide +kernel) (pa_cons (pe_ix ix_list (pv 0) (pe_int) (fun _ _ => rfl)) (pa_nil))) (nomark _)) (pw_and1 (pt_cmpR op_ge (pe_callB call_abs (by rfl) T.n_abs (by decide +kernel) (pa_cons (pv 4) (pa_nil))) (pe_op op_pow (pe_int) (pe_int)) (nomark _))))) (pss_cons (ps_set (i := 5) sc_draw.nd rfl (Or.inl rfl) (pe_op op_add (pe_op op_mul (pe_int) (pe_op op_sub (pe_callB call_abs (by rfl) T.n_abs (by decide +kernel) (pa_cons (pv 4) (pa_nil))) (pe_op op_pow (pe_int) (pe_int)))) (pe_callTy call_int1 (by rfl) T.n_int (by decide +kernel) (pa_cons (pe_cmpR op_lt (pv 4) (pe_int) (nomark _)) (pa_nil)))))
      (pss_cons (ps_asg (pe_op op_fdivW (pe_callTy call_int1 (by rfl) T.n_int (by decide +kernel) (pa_cons (pv 5) (pa_nil))) (pv 1)) (pg_sub (pv 0) (pe_int) set_list))
      (pss_one (ps_ret (pe_op op_modN (pe_callTy call_int1 (by rfl) T.n_int (by decide +kernel) (pa_cons (pv 5) (pa_nil))) (pv 1)))))) (pss_nil))
      (pss_cons (ps_set (i := 6) sc_draw.nd rfl (Or.inl rfl) (pe_op op_modN (pe_callTy call_int1 (by rfl) T.n_int (by decide +kernel) (pa_cons (pe_op op_pow (pe_op op_add (pe_op op_add (pe_op op_modN (pe_callTy call_int1 (by rfl) T.n_int (by decide +kernel) (pa_cons (pv 4) (pa_nil))) (pe_int)) (pe_op op_mul (pe_int) (pv 3))) (pe_int)) (pe_int)) (pa_nil))) (pe_int)))
      (pss_cons (ps_set (i := 6) sc_draw.nd rfl (Or.inl rfl) (pe_op op_modN (pe_callTy call_int1 (by rfl) T.n_int (by decide +kernel) (pa_cons (pe_op op_pow (pe_op op_add (pe_op op_add (pe_op op_mul (pv 6) (pe_op op_add (pe_op op_mul (pe_int) (pv 3)) (pe_int))) (pe_op op_mul (pe_op op_mul (pe_int) (pv 3)) (pv 3))) (pe_int)) (pe_int)) (pa_nil))) (pe_int)))
      (pss_one (ps_ret (pe_op op_modN (pe_callTy call_int1 (by rfl) T.n_int (by decide +kernel) (pa_cons (pe_op op_fdivW (pv 6) (pe_int)) (pa_nil))) (pv 1))))))))))), ?_⟩
    refine ⟨_, rfl, p, _, _, _, rfl, rfl, SqL.of hp, rfl, _, _, rfl, rfl, _, rfl, ?_⟩
    refine ite2 (fun hg => ?_) (fun hg => ?_)
    · refine ⟨_, rfl, p, _, _, _, rfl, rfl, SqL.of hp, rfl, .inl ⟨_, rfl, ?_⟩⟩
      refine ⟨_, rfl, _, _, rfl, rfl, (by omega), ?_⟩
      refine ⟨_, rfl, p, _, _, _, rfl, rfl, SqL.of hp, rfl, .inl ⟨_, rfl, ?_⟩⟩
      refine ⟨_, rfl, _, _, rfl, rfl, wide_div hm mb (by decide) (by decide), ?_⟩
      refine ⟨_, rfl, p, _, _, _, rfl, rfl, hp, rfl, _, rfl, ?_⟩
      have fm := fmod_pos (x := g) hm
      refine k _ _ fm.1 fm.2 ⟨c, ns, i, g / m, upd_same, ?_, i0, by omega, Int.ediv_nonneg g0 (by omega), hl⟩ (fr_upd hp)
      rw [upd_ne cp]; exact hc
    · refine ⟨_, rfl, p, _, _, _, rfl, rfl, SqL.of hp, rfl, ?_⟩
      refine ⟨_, rfl, _, _, rfl, rfl, _, rfl, p, _, _, _, rfl, rfl, hp, rfl, ?_⟩
      -- the index is one more
      have f1 : Fr p H (upd H p (.lst [.ref c, .int (i + 1), .int g])) := fr_upd hp
      have hp1 : (upd H p (.lst [.ref c, .int (i + 1), .int g])) p = some (.lst [.ref c, .int (i + 1), .int g]) := upd_same
      have hc1 : (upd H p (.lst [.ref c, .int (i + 1), .int g])) c = some (.lst (ns.map V.int)) := by rw [upd_ne cp]; exact hc
      show _
      refine ⟨_, rfl, _, _, rfl, rfl, .inl ⟨by decide, by decide⟩, _, _, rfl, rfl, ?_⟩
      refine ⟨fun σ' H' => ∃ raw : Int, σ' = [some (.ref p), some (.int m), Option.none, some (.int i), some (.int raw), Option.none, Option.none] ∧ Same (upd H p (.lst [.ref c, .int (i + 1), .int g])) H', ?_, ?_⟩
      · refine ⟨_, rfl, p, _, _, _, rfl, rfl, SqL.of hp1, rfl, Nat.zero_le _, fun l hl0 => ?_⟩
        refine ⟨.list (ns.map PyData.int), .list [], .lst (SqL.of (same_new hl0 _ _ hc1)) (dp_ints ns), .lst (SqL.of upd_same) .nil, PySem.W.ke_shaped_ints ns, by decide +kernel, _, rfl, ?_⟩
        have s1 := same_new (o := .lst []) hl0
        cases ns with
        | nil => exact iteF ⟨_, rfl, s1⟩
        | cons z r =>
          refine iteT ?_
          refine ⟨_, rfl, p, _, _, _, rfl, rfl, SqL.of (s1 _ _ hp1), rfl, ?_⟩
          refine ⟨_, rfl, .inl ⟨_, rfl, ?_⟩⟩
          refine ⟨_, rfl, p, _, _, _, rfl, rfl, SqL.of (s1 _ _ hp1), rfl, c, _, rfl, .inl (SqL.of (s1 _ _ hc1)), _, _, rfl, rfl, ?_⟩
          have lp : (0 : Int) < (((z :: r).map V.int).length : Nat) := by rw [List.length_map, List.length_cons]; omega
          have fm := fmod_pos (x := i) lp
          have fm2 : i.fmod (((z :: r).map V.int).length : Nat) < (((z :: r).length : Nat) : Int) := by have := fm.2; rw [List.length_map] at this; rw [List.length_map]; exact this
          obtain ⟨y, hy⟩ := atI_in fm.1 fm2
          exact ⟨by omega, c, _, _, _, rfl, rfl, SqL.of (s1 _ _ hc1), hy, y, rfl, s1⟩
      · rintro σ' H' ⟨raw, rfl, s1⟩
        have hp2 := s1 _ _ hp1
        have hc2 := s1 _ _ hc1
        have f2 : Fr p H H' := f1.trans (same_fr s1)
        have penE : ∀ g' : Int, 0 ≤ g' → Pen (upd H' p (.lst [.ref c, .int (i + 1), .int g'])) p (n + 1) := fun g' h' => ⟨c, ns, i + 1, g', upd_same, by rw [upd_ne cp]; exact hc2, by omega, by omega, h', hl⟩
        refine ⟨fun σ'' H'' => σ'' = [some (.ref p), some (.int m), Option.none, some (.int i), some (.int raw), Option.none, Option.none] ∧ H'' = H', ?_, ?_⟩
        rotate_left
        · rintro σ'' H'' ⟨rfl, rfl⟩
          refine ⟨_, rfl, .inl ⟨_, rfl, ?_⟩⟩
          refine ⟨_, _, rfl, rfl, (by show (_ : Int) ≠ 0; decide), _, rfl, _, _, rfl, rfl, .inl ⟨by decide, by decide⟩, _, _, rfl, rfl, _, _, rfl, rfl, ?_⟩
          have r1 := fmod_pos (x := raw) (m := 2147483543) (by decide)
          refine ⟨_, _, rfl, rfl, ⟨by decide, by decide, stir1 r1.1 (by omega) i0 (by omega) (by decide) (by decide) (by decide) (by decide)⟩, .inl ⟨_, rfl, ?_⟩⟩
          refine ⟨_, _, rfl, rfl, (by show (_ : Int) ≠ 0; decide), ?_⟩
          have r2 : ∀ x : Int, 0 ≤ x.fmod 2147483629 ∧ x.fmod 2147483629 < 2147483629 := fun x => fmod_pos (by decide)
          refine ⟨_, rfl, _, rfl, _, _, rfl, rfl, .inl ⟨by decide, by decide⟩, _, _, rfl, rfl, _, _, rfl, rfl, .inl (small64 (r2 _).1 (Int.lt_trans (r2 _).2 (by decide))), ?_⟩
          refine ⟨_, rfl, _, _, rfl, rfl, .inl ⟨by decide, by decide⟩, _, rfl, _, _, rfl, rfl, .inr ⟨by omega, by omega⟩, _, _, rfl, rfl, _, _, rfl, rfl, ?_⟩
          refine ⟨_, _, rfl, rfl, ⟨by decide, by decide, stir2 (r2 _).1 (Int.lt_trans (r2 _).2 (by decide)) i0 (by omega) (by decide) (by decide) (by decide) (by decide) (by decide) (by decide)⟩, .inl ⟨_, rfl, ?_⟩⟩
          refine ⟨_, _, rfl, rfl, (by show (_ : Int) ≠ 0; decide), ?_⟩
          refine ⟨_, rfl, _, _, rfl, rfl, wide_div (b := 10) (by decide) (by decide) (by decide) (by decide), .inl ⟨_, rfl, ?_⟩⟩
          refine ⟨_, rfl, _, _, rfl, rfl, (by omega), ?_⟩
          have fm := fun x => fmod_pos (x := x) hm
          exact k _ _ (fm _).1 (fm _).2 ⟨c, ns, i + 1, g, hp2, hc2, by omega, by omega, g0, hl⟩ f2
        refine ⟨_, rfl, _, rfl, p, _, _, _, rfl, rfl, SqL.of hp2, rfl, c, _, rfl, .inl (SqL.of hc2), _, _, rfl, rfl, _, rfl, ?_⟩
        refine ite2 (fun hlt => ?_) (fun hlt => ?_)
        · refine ⟨_, rfl, _, rfl, _, _, rfl, rfl, ⟨by decide, by decide, by decide⟩, _, _, rfl, rfl, _, rfl, ?_⟩
          refine ite2 (fun hge => ?_) (fun hge => ?_)
          · have hge := of_decide_eq_true hge
            refine ⟨_, rfl, _, rfl, _, _, rfl, rfl, ⟨by decide, by decide, by decide⟩, _, _, rfl, rfl, _, _, rfl, rfl, .inl ⟨by decide, by decide⟩, ?_⟩
            refine ⟨_, rfl, _, _, rfl, rfl, .inr ⟨_, rfl, ?_⟩⟩
            refine ⟨_, _, rfl, rfl, ?_⟩
            have gpos : (0 : Int) ≤ 2 * ((if raw < 0 then -raw else raw) - 10 ^ (18 : Int).toNat) + (if decide (raw < 0) = true then 1 else 0) := by
              have : (0 : Int) ≤ (if decide (raw < 0) = true then 1 else 0) := by split <;> omega
              omega
            refine ⟨_, rfl, .inl ⟨_, rfl, ?_⟩⟩
            refine ⟨_, rfl, _, _, rfl, rfl, wide_div hm mb (by decide) (by decide), ?_⟩
            refine ⟨_, rfl, p, _, _, _, rfl, rfl, hp2, rfl, ?_⟩
            refine ⟨_, rfl, .inl ⟨_, rfl, ?_⟩⟩
            refine ⟨_, rfl, _, _, rfl, rfl, (by omega), ?_⟩
            have fm := fun x => fmod_pos (x := x) hm
            exact k _ _ (fm _).1 (fm _).2 (penE _ (Int.ediv_nonneg gpos (by omega))) (f2.trans (fr_upd hp2))
          · exact ⟨rfl, rfl⟩
        · exact ⟨rfl, rfl⟩

def spPick (K : PySem.W.Frag) : Sp := fun vs H Q _ => ∃ (p l : Addr) (xs : List V) (n : Nat), vs = [.ref p, .ref l] ∧ SqL K H l xs ∧ l ≠ p ∧ 0 < xs.length ∧ xs.length < 1000000 ∧ Pen H p n ∧ n < 100000 ∧ ∀ (x : V) (H' : Hp), x ∈ xs → Pen H' p (n + 1) → Fr p H H' → Q x H'
theorem ok_pick (T : Txt K mg) : FnOk P w K mg base CX0 2 T.a_pick T.fd_pick ["_law_pen_here", "_law_some"] (spPick K) := by
  refine T.F_pick.ok sc_pick (fun vs H Q E h => ?_) (fun cdv A outer s H vs Q E hr h => ?_)
  · obtain ⟨p, l, xs, n, rfl, _⟩ := h; rfl
  · obtain ⟨p, l, xs, n, rfl, hS, hne, h0, h1, hP, hn, k⟩ := h
    refine ⟨_, pss_one (ps_ret (pe_ix ix_list (pv 1) (pe_call (ok_draw T) (hr.mono (by decide)) rfl T.m_draw T.F_draw.kp (b_draw T) .nil pass0 (pa_cons (pv 0) (pa_cons (pe_callB call_len_seq (by rfl) T.n_len (by decide +kernel) (pa_cons (pv 1) (pa_nil))) (pa_nil)))) (fun _ _ => rfl))), ?_⟩
    refine ⟨_, rfl, _, rfl, _, rfl, l, xs, rfl, .inl hS, p, _, n, rfl, (by omega), (by omega), hP, hn, fun r H' r0 r1 hP' fr => ?_⟩
    obtain ⟨x, hx, he⟩ := atI_any r0 r1
    exact ⟨l, xs, _, x, rfl, rfl, fr.seq hne hS, he, k x H' hx hP' fr⟩
/-! ### what is neither the pen nor a table stays -/
open Classical in
noncomputable def core (p : Addr) (H : Hp) : Hp := fun b => if b = p ∨ ∃ ps, H b = some (.tbl ps) then Option.none else H b
theorem core_sub {p : Addr} {H : Hp} : Same (core p H) H := fun b o e => by
  unfold core at e
  split at e
  · cases e
  · exact e
theorem core_at {p : Addr} {H : Hp} {a : Addr} {o : HO} (h : H a = some o) (n : a ≠ p) (nt : ∀ ps, o ≠ .tbl ps) : core p H a = some o := by
  unfold core
  rw [if_neg]
  · exact h
  · rintro (z | ⟨ps, z⟩)
    · exact n z
    · rw [h] at z
      exact nt ps (Option.some.inj z)
theorem core_of {p : Addr} {H : Hp} {a : Addr} {o : HO} (h : core p H a = some o) : a ≠ p ∧ (∀ ps, o ≠ .tbl ps) ∧ H a = some o := by
  have h2 := core_sub _ _ h
  unfold core at h
  split at h
  · cases h
  · rename_i n
    exact ⟨fun z => n (.inl z), fun ps z => n (.inr ⟨ps, z ▸ h2⟩), h2⟩
theorem core_fr {p : Addr} {H H' : Hp} (e : Fr p H H') : Same (core p H) H' := fun b o q => by
  obtain ⟨q1, _, q3⟩ := core_of q
  exact e b o q1 q3
theorem core_same {p : Addr} {H H' : Hp} (e : Same H H') : Same (core p H) H' := fun b o q => e b o (core_of q).2.2
theorem core_up {p : Addr} {H H' : Hp} (e : Same (core p H) H') : Same (core p H) (core p H') := fun b o q => by
  obtain ⟨q1, q2, _⟩ := core_of q
  exact core_at (e b o q) q1 q2
theorem SqL.same {K : PySem.W.Frag} {H H' : Hp} {a : Addr} {xs : List V} (s : Same H H') (h : SqL K H a xs) : SqL K H' a xs := by
  rcases h with (h | ⟨o, h⟩) | h
  · exact .inl (.inl (s _ _ h))
  · exact .inl (.inr ⟨o, s _ _ h⟩)
  · exact .inr h

theorem atI_nat {α : Type} {xs : List α} {r : Int} (h0 : 0 ≤ r) (h1 : r < (xs.length : Int)) : ∃ c, c ∈ xs ∧ atI xs r = some c := by
  have h : r.toNat < xs.length := by omega
  refine ⟨xs[r.toNat], List.getElem_mem h, ?_⟩
  unfold atI ixN
  rw [if_pos h0, if_pos h1]
  show xs[r.toNat]? = _
  exact List.getElem?_eq_getElem h
/-- a letter of a text is drawn -/
def spPickS : Sp := fun vs H Q _ => ∃ (p : Addr) (z : Str) (n : Nat), vs = [.ref p, .str z] ∧ 0 < z.length ∧ z.length < 1000000 ∧ Pen H p n ∧ n < 100000 ∧ ∀ (c : Nat) (H' : Hp), c ∈ z.cps.toList → Pen H' p (n + 1) → Fr p H H' → Q (.str ⟨#[c]⟩) H'
theorem ok_pickS (T : Txt K mg) : FnOk P w K mg base CX0 2 T.a_pick T.fd_pick ["_law_pen_here", "_law_some"] spPickS := by
  refine T.F_pick.ok sc_pick (fun vs H Q E h => ?_) (fun cdv A outer s H vs Q E hr h => ?_)
  · obtain ⟨p, z, n, rfl, _⟩ := h; rfl
  · obtain ⟨p, z, n, rfl, h0, h1, hP, hn, k⟩ := h
    have hz : z.length ≤ sizeLine := by rw [sizeLine_eq]; omega
    refine ⟨_, pss_one (ps_ret (pe_ix ix_str (pv 1) (pe_call (ok_draw T) (hr.mono (by decide)) rfl T.m_draw T.F_draw.kp (b_draw T) .nil pass0 (pa_cons (pv 0) (pa_cons (pe_callB call_len_str (by rfl) T.n_len (by decide +kernel) (pa_cons (pv 1) (pa_nil))) (pa_nil)))) (fun _ _ => rfl))), ?_⟩
    refine ⟨_, rfl, _, rfl, _, rfl, z, rfl, hz, p, _, n, rfl, (by omega), (by omega), hP, hn, fun r H' r0 r1 hP' fr => ?_⟩
    have hl : z.length = z.cps.toList.length := (Array.length_toList).symm
    obtain ⟨c, hc, he⟩ := atI_nat (xs := z.cps.toList) r0 (by omega)
    exact ⟨z, r, _, rfl, rfl, hz, he, k _ H' hc hP' fr⟩
/-- a text of small letters -/
def low (l : List Nat) : Prop := ∀ c ∈ l, 97 ≤ c ∧ c ≤ 122
theorem low_app {a b : List Nat} (ha : low a) (hb : low b) : low (a ++ b) := fun c hc => (List.mem_append.mp hc).elim (ha c) (hb c)
theorem letter_ok : ∀ c : Nat, c < 123 → 97 ≤ c → Unicode.isAlpha c = true ∧ Unicode.isLower c = true ∧ (Unicode.isUpper c || Unicode.isTitle c) = false := by decide +kernel
theorem name_low {z : Str} (h : low z.cps.toList) (h1 : 1 ≤ z.length) (h2 : z.length ≤ 8) : nameB (.str z) = true := by
  have hl : z.length = z.cps.toList.length := (Array.length_toList).symm
  have a1 : Txt.isascii z = true := by
    unfold Txt.isascii
    rw [← Array.all_toList, List.all_eq_true]
    exact fun c hc => decide_eq_true (by have := (h c hc).2; omega)
  have a2 : Txt.isalpha z = true := by
    unfold Txt.isalpha
    rw [Bool.and_eq_true, ← Array.all_toList, List.all_eq_true]
    exact ⟨decide_eq_true (by omega), fun c hc => (letter_ok c (by have := (h c hc).2; omega) (h c hc).1).1⟩
  have a3 : Txt.islower z = true := by
    unfold Txt.islower
    rw [Bool.and_eq_true, ← Array.any_toList, ← Array.any_toList, List.any_eq_true]
    constructor
    · have : 0 < z.cps.toList.length := by omega
      exact ⟨z.cps.toList[0], List.getElem_mem this, (letter_ok _ (by have := (h _ (List.getElem_mem this)).2; omega) (h _ (List.getElem_mem this)).1).2.1⟩
    · rw [Bool.not_eq_true', List.any_eq_false]
      intro c hc
      rw [(letter_ok c (by have := (h c hc).2; omega) (h c hc).1).2.2]
      exact Bool.false_ne_true
  show (decide (1 ≤ (z.length : Int) ∧ (z.length : Int) ≤ 8) && _) = true
  rw [a1, a2, a3, decide_eq_true (by omega)]
  rfl
theorem joinL_ones : ∀ l : List Nat, TL.joinL [] (l.map fun c => [c]) = l
  | [] => rfl
  | [c] => rfl
  | c :: d :: r => by
    have ih := joinL_ones (d :: r)
    show [c] ++ ([] ++ TL.joinL [] ((d :: r).map fun c => [c])) = _
    rw [ih]
    rfl
theorem join_ones (l : List Nat) : Txt.join "" (l.map fun c => (⟨#[c]⟩ : Str)) = ⟨l.toArray⟩ := by
  have h := SX.join_S [] (l.map fun c => [c])
  rw [List.map_map, joinL_ones] at h
  exact h
theorem pen_updL {H1 H2 : Hp} {q L : Addr} {n m : Nat} {o : HO} (h1 : Pen H1 q n) (hL : H1 L = Option.none) (f : Fr q H1 H2) (h2 : Pen H2 q m) : Pen (upd H2 L o) q m := by
  have nL : L ≠ q := h1.neq hL
  obtain ⟨cc, ns, i, g, p1, p2, _⟩ := h1
  obtain ⟨ys, hy⟩ := f.head _ _ p1
  obtain ⟨c', ns', i', g', q1, q2, q3⟩ := h2
  have e : c' = cc := by
    have z := Option.some.inj (hy.symm.trans q1)
    injection z with z
    injection z with z _
    injection z with z
    exact z.symm
  have nc : c' ≠ L := by rw [e]; exact ne_of_none p2 hL
  exact ⟨c', ns', i', g', by rw [upd_ne (Ne.symm nL)]; exact q1, by rw [upd_ne nc]; exact q2, q3⟩
theorem fr_updL {H1 H2 : Hp} {q L : Addr} {o : HO} (nL : L ≠ q) (hL : H1 L = Option.none) (f : Fr q H1 H2) : Fr q H1 (upd H2 L o) := ⟨fun b u n e => by rw [upd_ne (ne_of_none e hL)]; exact f b u n e, fun v xs e => by
  obtain ⟨ys, h⟩ := f.head v xs e
  exact ⟨ys, by rw [upd_ne (Ne.symm nL)]; exact h⟩⟩
theorem sum_ones : ∀ l : List Nat, ((l.map fun c => (⟨#[c]⟩ : Str)).map (·.length)).sum = l.length
  | [] => rfl
  | _ :: r => by
    rw [List.map_cons, List.map_cons, List.sum_cons, sum_ones r]
    show 1 + r.length = r.length + 1
    omega
/-- a name -/
def spName2 : Sp := fun vs H Q _ => ∃ (q : Addr) (n : Nat), vs = [.ref q] ∧ Pen H q n ∧ n < 90000 ∧ ∀ (z : Str) (H' : Hp), nameB (.str z) = true → Pen H' q (n + 5) → Fr q H H' → Q (.str z) H'
theorem ok_name (T : Txt K mg) : FnOk P w K mg base CX0 3 T.a_name T.fd_name ["_law_pen_here"] spName2 := by
  refine T.F_name.ok sc_name (fun vs H Q E h => ?_) (fun cdv A outer s H vs Q E hr h => ?_)
  · obtain ⟨q, n, rfl, _⟩ := h; rfl
  · obtain ⟨q, n, rfl, hP, hn, k⟩ := h
    refine ⟨_, pss_cons (ps_set (i := 1) sc_name.nd rfl (Or.inl rfl) (pe_join (pe_str) (pe_lc (own := [("_law_lap", 2)]) (g := gName 2) (tt := tYes) rfl sc_name.nd (pi_range1 (by rfl) T.n_range (pa_cons (pe_op op_add (pe_int) (pe_call (ok_draw T) (hr.mono (by decide)) rfl T.m_draw T.F_draw.kp (b_draw T) .nil pass0 (pa_cons (pv 0) (pa_cons (pe_int) (pa_nil))))) (pa_nil))) (blkOk_by (own := [("_law_lap", 2)]) (N := ["_law_pen_here", "_law_word", "_law_lap"]) (sc := defScope s_name) (by decide +kernel)) (fun _ _ _ _ _ => pg_name (i := 2) sc_name.nd rfl (Or.inl rfl)) (fun _ _ _ _ _ => pts_nil) (fun _ _ _ _ _ => pe_call (ok_pickS T) (hr.mono (by decide)) rfl T.m_pick T.F_pick.kp (b_pick T) .nil pass0 (pa_cons (pv 0) (pa_cons pe_str pa_nil))))))
      (pss_one (ps_ret (pe_call (ok_pick T) (hr.mono (by decide)) rfl T.m_pick T.F_pick.kp (b_pick T) .nil pass0 (pa_cons (pv 0) (pa_cons (pe_lst (pa_cons (pv 1) (pa_cons (pe_str) (pa_cons (pe_str) (pa_cons (pe_str) (pa_cons (pe_str) (pa_cons (pe_str) (pa_cons (pe_op op_add_str (pv 1) pe_str) (pa_cons (pe_op op_add_str (pv 1) pe_str) (pa_nil)))))))))) (pa_nil)))))), ?_⟩
    refine ⟨⟨_, rfl⟩, _, rfl, q, 3, n, rfl, by decide, by decide, hP, by omega, fun r H1 r0 r1 hP1 f1 => ?_⟩
    refine ⟨_, _, rfl, rfl, 1 + r, rfl, by omega, by omega, fun L hL => ?_⟩
    have nLq : L ≠ q := hP1.neq hL
    refine lc_range (lo := 0) (n := (1 + r).toNat) (fun t H' => ∃ ls : List Nat, H' L = some (.lst ((ls.map fun c => (⟨#[c]⟩ : Str)).map V.str)) ∧ ls.length = t ∧ low ls ∧ Pen H' q (n + 1 + t) ∧ Fr q H1 H')
      ⟨[], upd_same, rfl, fun _ z => absurd z List.not_mem_nil, hP1.same (same_new hL), same_fr (same_new hL)⟩ ?_ ?_
    · rintro t H' ht ⟨ls, hL', hl, hm, hP', f'⟩
      refine ⟨rfl, ?_⟩
      refine ⟨_, rfl, q, "abcdefghijklmnopqrstuvwxyz", n + 1 + t, rfl, by decide, by decide, hP', by omega, fun c H2 hc hP2 f2 => ?_⟩
      have hc2 : low [c] := by
        have all : ∀ c ∈ ("abcdefghijklmnopqrstuvwxyz" : Str).cps.toList, 97 ≤ c ∧ c ≤ 122 := by decide
        intro d hd
        rw [List.mem_singleton] at hd
        subst hd
        exact all _ hc
      refine ⟨_, f2 _ _ nLq hL', by rw [List.length_map, List.length_map, hl, sizeLine_eq]; omega, ls ++ [c], ?_, by rw [List.length_append, hl]; rfl, low_app hm hc2, pen_updL hP1 hL (f'.trans f2) hP2, fr_updL nLq hL (f'.trans f2)⟩
      rw [upd_same, List.map_append, List.map_append]
      rfl
    · rintro H' ⟨ls, hL', hl, hm, hP', f'⟩
      refine ⟨_, L, _, rfl, rfl, .inl (SqL.of hL'), ?_, ?_⟩
      · rw [sum_ones]
        show ls.length + _ * 0 ≤ _
        omega
      rw [join_ones]
      have lw : (⟨ls.toArray⟩ : Str).length = ls.length := SX.S_len ls
      have l1 : 1 ≤ ls.length ∧ ls.length ≤ 3 := by omega
      have lowz : low (⟨ls.toArray⟩ : Str).cps.toList := hm
      have la : ("a" : Str).length = 1 := by decide
      have lz : ("zzzzz" : Str).length = 5 := by decide
      have nb : nameB (.str ⟨ls.toArray⟩) = true := name_low lowz (by omega) (by omega)
      have app : ∀ u : Str, low u.cps.toList → u.length ≤ 5 → nameB (.str ((⟨ls.toArray⟩ : Str) ++ u)) = true := fun u hu hl5 => by
        refine name_low ?_ ?_ ?_
        · show low ((⟨ls.toArray⟩ : Str).cps ++ u.cps).toList
          rw [Array.toList_append]
          exact low_app lowz hu
        · rw [slen]; omega
        · rw [slen]; omega
      refine ⟨_, rfl, _, rfl, _, rfl, _, _, rfl, rfl, (by rw [lw, la, sizeLine_eq]; omega), _, rfl, _, _, rfl, rfl, (by rw [lw, lz, sizeLine_eq]; omega), (by show 8 ≤ sizeLine; decide), fun M hM => ?_⟩
      have sM := same_new (o := .lst [.str ⟨ls.toArray⟩, .str "a", .str "aa", .str "b", .str "z", .str "ab", .str ((⟨ls.toArray⟩ : Str) ++ "a"), .str ((⟨ls.toArray⟩ : Str) ++ "zzzzz")]) hM
      refine ⟨q, M, _, n + 1 + (1 + r).toNat, rfl, SqL.of upd_same, hP'.neq hM, (by show 0 < 8; decide), (by show 8 < 1000000; decide), hP'.same sM, by omega, fun x H2 hx hP2 f2 => ?_⟩
      have hx2 : ∃ z, x = .str z ∧ nameB (.str z) = true := by
        simp only [List.mem_cons, List.not_mem_nil, or_false] at hx
        rcases hx with rfl | rfl | rfl | rfl | rfl | rfl | rfl | rfl
        · exact ⟨_, rfl, nb⟩
        · exact ⟨_, rfl, by decide +kernel⟩
        · exact ⟨_, rfl, by decide +kernel⟩
        · exact ⟨_, rfl, by decide +kernel⟩
        · exact ⟨_, rfl, by decide +kernel⟩
        · exact ⟨_, rfl, by decide +kernel⟩
        · exact ⟨_, rfl, app _ (by show ∀ c ∈ ("a" : Str).cps.toList, _; decide) (by decide)⟩
        · exact ⟨_, rfl, app _ (by show ∀ c ∈ ("zzzzz" : Str).cps.toList, _; decide) (by decide)⟩
      obtain ⟨z, rfl, hz⟩ := hx2
      exact k z H2 hz (hP2.mono (by omega)) (f1.trans ((f'.trans (same_fr sM)).trans f2))

theorem tNil_to {σ : L2.St} {H : Hp} {Q : List V → Hp → Prop} (h : Q [] H) : tNil σ H Q := h
/-- at r a row that is in order -/
structure RowOk (T : Txt K mg) (H : Hp) (r : Addr) (e : Ent) : Prop where
  at_ : ∃ y, H r = some (.tup [.str e.n, .ref y, .int e.pr]) ∧ WhE T H y e.tr e.p e.b e.a
  pa : Parts e.tr e.p e.b e.a
  pr : 0 ≤ e.pr ∧ e.pr ≤ 1000000000000
  nm : nameB (.str e.n) = true
theorem RowOk.same {T : Txt K mg} {H H' : Hp} (s : Same H H') {r : Addr} {e : Ent} (h : RowOk T H r e) : RowOk T H' r e := by
  obtain ⟨y, h1, h2⟩ := h.at_
  exact ⟨⟨y, s _ _ h1, h2.same s⟩, h.pa, h.pr, h.nm⟩
theorem RowOk.row {T : Txt K mg} {H : Hp} {r : Addr} {e : Ent} (h : RowOk T H r e) : RowV T H (.ref r) (some e) := by
  obtain ⟨y, h1, h2⟩ := h.at_
  exact .three h1 (.good e h.nm h2 h.pa h.pr)
theorem WhE.fr {T : Txt K mg} {H H' : Hp} {q y : Addr} {n : Nat} {tr : Bool} {p b a : Int} (hP : Pen H q n) (f : Fr q H H') (h : WhE T H y tr p b a) : WhE T H' y tr p b a := by
  obtain ⟨C, g, wc, dx, hx⟩ := h
  exact ⟨C, g, wc, dx, f _ _ (fun z => by rw [z] at hx; exact (hP.at.elim fun _ z2 => by rw [hx] at z2; cases z2)) hx⟩
def spRow (T : Txt K mg) : Sp := fun vs H Q _ => ∃ (q L : Addr) (n : Nat) (ns : List Str), vs = [.ref q, .ref L] ∧ Pen H q n ∧ n < 90000 ∧ SqL K H L (ns.map V.str) ∧ L ≠ q ∧ 0 < ns.length ∧ ns.length < 100 ∧ (∀ z ∈ ns, nameB (.str z) = true) ∧
  ∀ (r : Addr) (e : Ent) (H' : Hp), RowOk T H' r e → e.n ∈ ns → H r = Option.none → r ≠ q → Pen H' q (n + 8) → Fr q H H' → Q (.ref r) H'
theorem ok_row (HP : PrF lawFile P) (T : Txt K mg) (W : Whl T) : FnOk P w K mg base CX0 7 T.a_row T.fd_row ["_law_pen_here", "_law_names"] (spRow T) := by
  refine T.F_row.ok sc_row (fun vs H Q E h => ?_) (fun cdv A outer s H vs Q E hr h => ?_)
  · obtain ⟨q, L, n, ns, rfl, _⟩ := h; rfl
  · obtain ⟨q, L, n, ns, rfl, hP, hn, hS, nL, h0, h1, hns, k⟩ := h
    refine ⟨_, pss_cons (ps_set (i := 2) sc_row.nd rfl (Or.inl rfl) (pe_mkR W.W.mkr ((ok_Wheel_init T).raw (b_Wheel_init T) .nil) (hr.mono (by decide)) passL rfl T.m_Wheel (pa_cons (pe_op op_add (pe_int) (pe_call (ok_draw T) (hr.mono (by decide)) rfl T.m_draw T.F_draw.kp (b_draw T) .nil pass0 (pa_cons (pv 0) (pa_cons (pe_int) (pa_nil))))) (pa_cons (pe_call (ok_draw T) (hr.mono (by decide)) rfl T.m_draw T.F_draw.kp (b_draw T) .nil pass0 (pa_cons (pv 0) (pa_cons (pe_int) (pa_nil)))) (pa_cons (pe_call (ok_draw T) (hr.mono (by decide)) rfl T.m_draw T.F_draw.kp (b_draw T) .nil pass0 (pa_cons (pv 0) (pa_cons (pe_int) (pa_nil)))) (pa_nil))))))
      (pss_cons (ps_set (i := 2) sc_row.nd rfl (Or.inl rfl) (pe_call (ok_pick T) (hr.mono (by decide)) rfl T.m_pick T.F_pick.kp (b_pick T) .nil pass0 (pa_cons (pv 0) (pa_cons (pe_lst (pa_cons (pv 2) (pa_cons (pe_mkR W.G.mkr ((ok_Grid_init HP T).raw (b_Grid_init T) .nil) (hr.mono (by decide)) passL rfl T.m_Grid (pa_cons (pe_op op_add (pe_int) (pe_call (ok_draw T) (hr.mono (by decide)) rfl T.m_draw T.F_draw.kp (b_draw T) .nil pass0 (pa_cons (pv 0) (pa_cons (pe_int) (pa_nil))))) (pa_nil))) (pa_nil)))) (pa_nil)))))
      (pss_one (ps_ret (pe_tup (pa_cons (pe_call (ok_pick T) (hr.mono (by decide)) rfl T.m_pick T.F_pick.kp (b_pick T) .nil pass0 (pa_cons (pv 0) (pa_cons (pv 1) (pa_nil)))) (pa_cons (pv 2) (pa_cons (pe_call (ok_draw T) (hr.mono (by decide)) rfl T.m_draw T.F_draw.kp (b_draw T) .nil pass0 (pa_cons (pv 0) (pa_cons (pe_op op_add (pe_op op_pow (pe_int) (pe_int)) (pe_int)) (pa_nil)))) (pa_nil)))))))), ?_⟩
    have hw : CPow 10 12 := ⟨by decide, by decide, by decide⟩
    have e12 : (10 : Int) ^ Int.toNat 12 = 1000000000000 := by decide
    refine ⟨_, rfl, q, 90, n, rfl, by decide, by decide, hP, by omega, fun p H1 p0 p1 hP1 f1 => ?_⟩
    refine ⟨_, _, rfl, rfl, ?_⟩
    refine ⟨_, rfl, q, 4, n + 1, rfl, by decide, by decide, hP1, by omega, fun b H2 b0 b1 hP2 f2 => ?_⟩
    refine ⟨_, rfl, q, 4, n + 1 + 1, rfl, by decide, by decide, hP2, by omega, fun a H3 a0 a1 hP3 f3 => ?_⟩
    refine tNil_to fun y dy hy hdy _ => okW T W hy hdy ⟨by omega, by omega⟩ ⟨b0, by omega⟩ ⟨a0, by omega⟩ fun H4 s4 w4 => ⟨rfl, ?_⟩
    have F4 := ((f1.trans f2).trans f3).trans (same_fr s4)
    have hP4 := hP3.same s4
    have wy : WhE T H4 y false (2 + p) b a := ⟨_, _, W.W, w4⟩
    clear w4 s4 hP1 hP2 hP3 f1 f2 f3
    refine ⟨_, rfl, _, rfl, _, rfl, q, 9, n + 1 + 1 + 1, rfl, by decide, by decide, hP4, by omega, fun g H5 g0 g1 hP5 f5 => ⟨_, _, rfl, rfl, ?_⟩⟩
    refine tNil_to fun y2 dy2 hy2 hdy2 _ => okG T W hy2 hdy2 ⟨by omega, by omega⟩ fun H6 s6 w6 => ⟨rfl, ?_⟩
    have hP6 := hP5.same s6
    have F6 := (F4.trans f5).trans (same_fr s6)
    have wy := (wy.fr hP4 f5).same s6
    have wy2 : WhE T H6 y2 true (2 + g) 0 0 := ⟨_, _, W.G, w6⟩
    clear w6 s6 hP4 hP5 f5 F4
    refine tNil_to ⟨(by show 2 ≤ sizeLine; decide), fun M hM => ?_⟩
    have sM := same_new (o := .lst [.ref y, .ref y2]) hM
    have nM := hP6.neq hM
    refine ⟨q, M, [.ref y, .ref y2], n + 1 + 1 + 1 + 1, rfl, SqL.of upd_same, nM, (by show 0 < 2; decide), (by show 2 < 1000000; decide), hP6.same sM, by omega, fun x H7 hx hP7 f7 => ?_⟩
    have F7 := (F6.trans (same_fr sM)).trans f7
    have hx2 : ∃ (z : Addr) (tr : Bool) (p b a : Int), x = .ref z ∧ WhE T H7 z tr p b a ∧ Parts tr p b a := by
      simp only [List.mem_cons, List.not_mem_nil, or_false] at hx
      rcases hx with rfl | rfl
      · exact ⟨y, _, _, _, _, rfl, (wy.same sM).fr (hP6.same sM) f7, ⟨by omega, by omega⟩, ⟨b0, by omega⟩, ⟨a0, by omega⟩, fun z => by cases z⟩
      · exact ⟨y2, _, _, _, _, rfl, (wy2.same sM).fr (hP6.same sM) f7, ⟨by omega, by omega⟩, ⟨by decide, by decide⟩, ⟨by decide, by decide⟩, fun _ => ⟨rfl, rfl⟩⟩
    obtain ⟨z, tr, pp, bb, aa, rfl, wz, paz⟩ := hx2
    clear hx wy wy2 f7 sM hP6 F6
    have hS7 := F7.seq nL hS
    refine ⟨_, rfl, _, rfl, q, L, ns.map V.str, n + 1 + 1 + 1 + 1 + 1, rfl, hS7, nL, by rw [List.length_map]; exact h0, by rw [List.length_map]; omega, hP7, by omega, fun x H8 hx hP8 f8 => ?_⟩
    obtain ⟨nm, hnm, rfl⟩ := List.mem_map.mp hx
    have F8 := F7.trans f8
    have wz := wz.fr hP7 f8
    clear hx f8 hP7 F7 hS7
    refine ⟨_, rfl, ?_⟩
    refine ⟨_, rfl, _, _, rfl, rfl, hw, _, _, rfl, rfl, q, _, n + 1 + 1 + 1 + 1 + 1 + 1, rfl, (by decide), (by decide), hP8, by omega, fun pc H10 pc0 pr1 hP10 f9 => ?_⟩
    have F10 := F8.trans f9
    have wz := wz.fr hP8 f9
    have pc1 : pc ≤ 1000000000000 := by rw [e12] at pr1; omega
    have hP10 := hP10.mono (show n + 1 + 1 + 1 + 1 + 1 + 1 + 1 ≤ n + 8 by omega)
    refine tNil_to ⟨(by show 3 ≤ sizeLine; decide), fun r hr0 => ?_⟩
    have sR := same_new (o := .tup [.str nm, .ref z, .int pc]) hr0
    have hr1 : H r = Option.none := by
      by_cases hq : r = q
      · exact absurd hq (hP10.neq hr0)
      · match e : H r with
        | Option.none => rfl
        | some o => rw [F10 _ _ hq e] at hr0; cases hr0
    exact k r ⟨nm, tr, pp, bb, aa, pc⟩ _ ⟨⟨z, upd_same, wz.same sR⟩, paz, ⟨pc0, pc1⟩, hns nm hnm⟩ hnm hr1 (hP10.neq hr0) (hP10.same sR) (F10.trans (same_fr sR))

theorem fnIn_of {K : PySem.W.Frag} {x qual : Str} {st : Stmt} {f : Addr} {fd : FuncData} (F : Fun K x qual st f fd) : PySem.W.fnIn K f = true := by
  obtain ⟨oc, od, kV, doc, pm, an, cdv, ct, osl, rfl, lk, hcd⟩ := F.ex
  unfold PySem.W.fnIn
  rw [lk]
theorem call_strW2 {X : Cx} {CX : CXT} {k : Nat} {g : Addr} {fd : FuncData} {ps : List Str} {sp : Sp} {E : XK} (K : PySem.W.Frag) (hK : X.K = K) (F : FnOk X.prog X.w X.K X.mg X.base CX k g fd ps sp) (hr : Room (k + 3) X.A) (hb : Binds X.K fd ps []) (hx : Passes CX X E) (hf : PySem.W.isFn X.K (.ref g) = true) : CallR X (.type "str") (rStrW K g sp E) := by
  subst hK
  exact call_strW F hr hb hx hf
theorem same_drop {H : Hp} {it : Addr} {o : HO} (h : H it = Option.none) : Same H (ItX.dropH (upd H it o) it) := fun b ob e => by
  have n := ne_of_none e h
  rw [ItX.dropH_ne n, upd_ne n]
  exact e
/-- at l the list of these rows -/
def StAt (H : Hp) (l : Addr) (st : List Row) : Prop := ∃ rs : List RowT, H l = some (.lst (rs.map fun r => V.ref r.1)) ∧ (∀ r ∈ rs, RowAt H r) ∧ rs.map (·.2) = st
theorem StAt.same {H H' : Hp} (s : Same H H') {l : Addr} {st : List Row} (h : StAt H l st) : StAt H' l st := by
  obtain ⟨rs, h1, h2, h3⟩ := h
  exact ⟨rs, s _ _ h1, fun r hr => s _ _ (h2 r hr), h3⟩
theorem ents_nm {T : Txt K mg} {H : Hp} : ∀ {kvs : List (Key × V)} {es : List Ent}, PySem.Paired (EntAt T H) kvs es → ∀ e ∈ es, nameB (.str e.n) = true
  | _, _, .nil, _, h => absurd h List.not_mem_nil
  | _, _, .cons x t, e, h => by
    rcases List.mem_cons.mp h with rfl | h
    · exact x.nm
    · exact ents_nm t e h
theorem ent_uniq : ∀ {es : List Ent} {e e' : Ent}, (es.map (·.n)).Nodup → e ∈ es → e' ∈ es → e.n = e'.n → e = e'
  | x :: r, e, e', nd, h, h', q => by
    obtain ⟨n1, n2⟩ := List.nodup_cons.mp nd
    rcases List.mem_cons.mp h with rfl | g <;> rcases List.mem_cons.mp h' with rfl | g'
    · rfl
    · exact absurd (show e.n ∈ r.map (·.n) from List.mem_map.mpr ⟨e', g', q.symm⟩) n1
    · exact absurd (show e'.n ∈ r.map (·.n) from List.mem_map.mpr ⟨e, g, q⟩) n1
    · exact ent_uniq n2 g g' q
/-- rows of all names in order are the state -/
theorem state_of {es : List Ent} {ns : List Str} {rs : List RowT} (n2 : ns.Pairwise (fun a b => a.cps.toList < b.cps.toList)) (n3 : ns.Perm (es.map (·.n))) (nd : (es.map (·.n)).Nodup) (h1 : rs.map (fun r => r.2.1) = ns) (h2 : ∀ r ∈ rs, r.2 ∈ es.map Ent.row) : IsSt es (rs.map (·.2)) := by
  constructor
  · rw [← h1] at n2
    have z : List.Pairwise (fun a b : RowT => nkey a.2 < nkey b.2) rs := (List.pairwise_map (f := fun r : RowT => r.2.1) (R := fun a b : Str => a.cps.toList < b.cps.toList)).mp n2
    show List.Pairwise (fun a b : Row => nkey a < nkey b) (rs.map (·.2))
    exact (List.pairwise_map (f := fun r : RowT => r.2) (R := fun a b : Row => nkey a < nkey b)).mpr z
  · intro x
    constructor
    · intro hx
      obtain ⟨r, hr, rfl⟩ := List.mem_map.mp hx
      exact h2 r hr
    · intro hx
      obtain ⟨e, he, rfl⟩ := List.mem_map.mp hx
      have : e.n ∈ rs.map (fun r => r.2.1) := by
        rw [h1]
        exact n3.mem_iff.mpr (List.mem_map.mpr ⟨e, he, rfl⟩)
      obtain ⟨r, hr, e1⟩ := List.mem_map.mp this
      obtain ⟨e', he', e2⟩ := List.mem_map.mp (h2 r hr)
      have e3 : e'.n = e.n := by rw [← e1, ← e2]; rfl
      have e4 := ent_uniq nd he' he e3
      subst e4
      exact List.mem_map.mpr ⟨r, hr, e2.symm⟩
def spState (T : Txt K mg) : Sp := fun vs H Q _ => ∃ (x : Addr) (es : List Ent) (past ahead : List (List Ent)), vs = [.ref x] ∧ ShAt T H x es past ahead ∧ ∀ (l : Addr) (st : List Row) (H' : Hp), Same H H' → H l = Option.none → IsSt es st → StAt H' l st → Q (.ref l) H'
theorem ok_state (HP : PrF lawFile P) (T : Txt K mg) (W : Whl T) : FnOk P w K mg base CX0 6 T.a_state T.fd_state ["_law_shelf"] (spState T) := by
  refine T.F_state.ok sc_state (fun vs H Q E h => ?_) (fun cdv A outer s H vs Q E hr h => ?_)
  · obtain ⟨x, es, past, ahead, rfl, _⟩ := h; rfl
  · obtain ⟨x, es, past, ahead, rfl, hS, k⟩ := h
    obtain ⟨dx, d, t, tp, ta, hx, hI⟩ := hS.fld
    obtain ⟨ns, n1, n2, n3⟩ := hI.nm
    obtain ⟨kvs, d1, d2, d3, d4⟩ := hI.di
    refine ⟨_, pss_one (ps_ret (pe_lc (own := [("_law_name_here", 1)]) (g := gName 1) (tt := tYes) rfl sc_state.nd ((pi_ownT (pv 0) (ok_Shelf_iter T) (hr.mono (by decide)) pass0 T.fi_iter T.fn_iter)) (blkOk_by (own := [("_law_name_here", 1)]) (N := ["_law_shelf", "_law_name_here"]) (sc := defScope s_state) (by decide +kernel)) (fun _ _ _ _ _ => pg_name (i := 1) sc_state.nd rfl (Or.inl rfl)) (fun _ _ _ _ _ => pts_nil) (fun _ _ _ _ _ => pe_tup (pa_cons (pv 1) (pa_cons (pe_callTy (call_strW2 K (by rfl) (ok_Wheel_str T) (hr.mono (by decide)) (b_Wheel_str T) pass0 W.fnS) (by rfl) T.n_str (by decide +kernel) (pa_cons (pe_ix (ix_tup2 K (by rfl)) (pe_ixOK K (by rfl) (ok_Shelf_getitem T) (hr.mono (by decide)) (b_Shelf_getitem T) pass0 T.fi_get (fnIn_of T.F_Shelf_getitem) T.fn_get (pv 0) (pv 1)) (pe_int) (fun _ _ => rfl)) (pa_nil))) (pa_cons (pe_ix (ix_tup2 K (by rfl)) (pe_ixOK K (by rfl) (ok_Shelf_getitem T) (hr.mono (by decide)) (b_Shelf_getitem T) pass0 T.fi_get (fnIn_of T.F_Shelf_getitem) T.fn_get (pv 0) (pv 1)) (pe_int) (fun _ _ => rfl)) (pa_nil))))))), ?_⟩
    refine ⟨_, rfl, x, dx, _, rfl, hx, fun n => ⟨x, dx, t, _, _, _, ns.map V.str, rfl, hx, SqT.of n1, fun it hit hn => ⟨it, t, rfl, hn, upd_same, ?_⟩⟩⟩
    have s0 := same_drop (o := ItTO t it) hit
    generalize ItX.dropH (upd H it (ItTO t it)) it = G at s0 ⊢
    intro D hD
    have hDH : H D = Option.none := none_up s0 hD
    have sD := s0.trans (same_new (o := .lst []) hD)
    refine lc_tup (K := K) (a := t) (xs := ns.map V.str) (fun i H' => Same H H' ∧ ∃ rs : List RowT, H' D = some (.lst (rs.map fun r => V.ref r.1)) ∧ (∀ r ∈ rs, RowAt H' r) ∧ rs.map (fun r => r.2.1) = ns.take i ∧ (∀ r ∈ rs, r.2 ∈ es.map Ent.row))
      ⟨sD, [], upd_same, fun _ h => absurd h List.not_mem_nil, rfl, fun _ h => absurd h List.not_mem_nil⟩ (fun i H' _ h => SqT.of (h.1 _ _ n1)) ?_ ?_
    · rintro i v H' hv ⟨s1, rs, r1, r2, r3, r4⟩
      obtain ⟨nm, hnm, rfl⟩ : ∃ nm, ns[i]? = some nm ∧ v = .str nm := by
        rw [List.getElem?_map] at hv
        cases q : ns[i]? with
        | none => rw [q] at hv; cases hv
        | some nm => rw [q] at hv; exact ⟨nm, rfl, (Option.some.inj hv).symm⟩
      have hmem : nm ∈ ns := List.mem_of_getElem? hnm
      have hE : hasE es nm = true := hasE_iff.mpr (n3.mem_iff.mp hmem)
      obtain ⟨e0, he0, hn0⟩ := List.mem_map.mp (n3.mem_iff.mp hmem)
      have l8 : nm.length ≤ 8 := by
        have := (name_len (ents_nm d2 e0 he0)).2
        rw [hn0] at this
        omega
      have hS' := hS.same s1
      have hx' := s1 _ _ hx
      refine ⟨rfl, ?_⟩
      refine ⟨_, rfl, _, rfl, _, rfl, x, dx, _, rfl, hx', x, nm, es, past, ahead, rfl, hS', l8, hE, fun e tt y he hen htt wy pa pr => ⟨tt, _, 0, _, rfl, rfl, SqT.of htt, rfl, tNil_to (str_of wy pa ?_)⟩⟩
      refine ⟨_, rfl, _, rfl, x, dx, _, rfl, hx', x, nm, es, past, ahead, rfl, hS', l8, hE, fun e2 tt2 y2 he2 hen2 htt2 wy2 pa2 pr2 => ⟨tt2, _, 1, _, rfl, rfl, SqT.of htt2, rfl, (by show 3 ≤ sizeLine; decide), fun tp htp => ?_⟩⟩
      have ee : e2 = e := ent_uniq d3 he2 he (hen2.trans hen.symm)
      subst ee
      have sT := same_new (o := .tup [.str nm, .str (NX.wtext e2.tr e2.p e2.b e2.a), .int e2.pr]) htp
      have nDp : D ≠ tp := ne_of_none r1 htp
      have lr : rs.length = i := by
        have z := congrArg List.length r3
        rw [List.length_map, List.length_take] at z
        have := (List.getElem?_eq_some_iff.mp hnm).1
        omega
      have li : i < 8 := by
        have := (List.getElem?_eq_some_iff.mp hnm).1
        have := n3.length_eq
        rw [List.length_map] at this
        omega
      refine ⟨_, sT _ _ r1, by rw [List.length_map, lr, sizeLine_eq]; omega, fun b o hb => ?_, rs ++ [(tp, nm, NX.wtext e2.tr e2.p e2.b e2.a, e2.pr)], ?_, ?_, ?_, ?_⟩
      · rw [upd_ne (ne_of_none hb hDH)]
        exact sT _ _ (s1 _ _ hb)
      · rw [upd_same, List.map_append]
        rfl
      · intro r hr
        rcases List.mem_append.mp hr with hr | hr
        · show _ = _
          have z := r2 r hr
          have nz : r.1 ≠ D := fun z2 => by
            have z : H' r.1 = _ := z
            rw [z2, r1] at z
            cases z
          rw [upd_ne nz]
          exact sT _ _ z
        · rw [List.mem_singleton] at hr
          subst hr
          show _ = _
          rw [upd_ne (Ne.symm nDp), upd_same]
      · rw [List.map_append, r3, NM.take_snoc hnm]
        rfl
      · intro r hr
        rcases List.mem_append.mp hr with hr | hr
        · exact r4 r hr
        · rw [List.mem_singleton] at hr
          subst hr
          exact List.mem_map.mpr ⟨e2, he2, by rw [← hen]; rfl⟩
    · rintro H' ⟨s1, rs, r1, r2, r3, r4⟩
      rw [List.length_map, List.take_length] at r3
      exact k D (rs.map (·.2)) H' s1 hDH (state_of n2 n3 d3 r3 r4) ⟨rs, r1, r2, rfl⟩

def spWith (T : Txt K mg) : Sp := fun vs H Q _ => ∃ (l r : Addr) (st : List Row) (es : List Ent) (e : Ent), vs = [.ref l, .ref r] ∧ StAt H l st ∧ IsSt es st ∧ es.length ≤ 8 ∧ (es.map (·.n)).Nodup ∧ RowOk T H r e ∧ ∀ (l' : Addr) (st' : List Row) (H' : Hp), Same H H' → H l' = Option.none → IsSt (putE es e) st' → StAt H' l' st' → Q (.ref l') H'
theorem ok_with (HP : PrF lawFile P) (T : Txt K mg) (W : Whl T) : FnOk P w K mg base CX0 6 T.a_with T.fd_with ["_law_state_here", "_law_row_here"] (spWith T) := by
  refine T.F_with.ok sc_with (fun vs H Q E h => ?_) (fun cdv A outer s H vs Q E hr h => ?_)
  · obtain ⟨l, r, st, es, e, rfl, _⟩ := h; rfl
  · obtain ⟨l, r, st, es, e, rfl, ⟨rs, h1, h2, h3⟩, hst, hle, hnd, hR, k⟩ := h
    obtain ⟨y, hr0, wy⟩ := hR.at_
    have lrs : rs.length ≤ 8 := by
      have z := congrArg List.length h3
      rw [List.length_map, hst.len hnd] at z
      omega
    refine ⟨_, pss_one (ps_ret (pe_callB (cr_sortedR hr.units) (by rfl) T.n_sorted (by decide +kernel) (pa_cons (pe_op op_cat (pe_lc (own := [("_law_old", 2)]) (g := gName 2) rfl sc_with.nd (pi_list (pv 0)) (blkOk_by (own := [("_law_old", 2)]) (N := ["_law_state_here", "_law_row_here", "_law_old"]) (sc := defScope s_with) (by decide +kernel)) (fun _ _ _ _ _ => pg_name (i := 2) sc_with.nd rfl (Or.inl rfl)) (fun _ _ _ _ _ => pts_one (pt_cmpR op_ne (pe_ix (ix_tup2 K (by rfl)) (pv 2) (pe_int) (fun _ _ => rfl)) (pe_ix (ix_tup2 K (by rfl)) (pv 1) (pe_int) (fun _ _ => rfl)) (nomark _))) (fun _ _ _ _ _ => pv 2)) (pe_lst (pa_cons (pe_tup (pa_cons (pe_ix ix_tup (pv 1) (pe_int) (fun _ _ => rfl)) (pa_cons (pe_callTy (call_strW (ok_Wheel_str T) (hr.mono (by decide)) (b_Wheel_str T) pass0 W.fnS) (by rfl) T.n_str (by decide +kernel) (pa_cons (pe_ix ix_tup (pv 1) (pe_int) (fun _ _ => rfl)) (pa_nil))) (pa_cons (pe_ix ix_tup (pv 1) (pe_int) (fun _ _ => rfl)) (pa_nil))))) (pa_nil)))) (pa_nil)))), ?_⟩
    refine ⟨_, rfl, l, rfl, ⟨_, SqL.of h1⟩, ?_⟩
    intro D hD
    refine lc_list (K := K) (a := l) (xs := rs.map fun r => V.ref r.1) (fun i H' => Same H H' ∧ H' D = some (.lst (((rs.take i).filter fun r => decide (r.2.1 ≠ e.n)).map fun r => V.ref r.1))) ⟨same_new hD, upd_same⟩ (fun i H' _ h => SqL.of (h.1 _ _ h1)) ?_ ?_
    · rintro i v H' hv ⟨s1, eD⟩
      obtain ⟨ro, hro, rfl⟩ : ∃ ro, rs[i]? = some ro ∧ v = .ref ro.1 := by
        rw [List.getElem?_map] at hv
        cases q : rs[i]? with
        | none => rw [q] at hv; cases hv
        | some ro => rw [q] at hv; exact ⟨ro, rfl, (Option.some.inj hv).symm⟩
      have hra := s1 _ _ (h2 ro (List.mem_of_getElem? hro))
      have hr1 := s1 _ _ hr0
      refine ⟨rfl, ?_⟩
      refine ⟨_, rfl, ro.1, _, 0, _, rfl, rfl, SqT.of hra, rfl, _, rfl, r, _, 0, _, rfl, rfl, SqT.of hr1, rfl, rfl, _, rfl, ?_⟩
      have ht : rs.take (i + 1) = rs.take i ++ [ro] := NM.take_snoc hro
      refine ite2 (fun hc => ?_) (fun hc => ?_)
      · have hne : ro.2.1 ≠ e.n := fun z => by
          rw [z, decide_eq_true rfl] at hc
          cases hc
        have lacc : ((rs.take i).filter fun r => decide (r.2.1 ≠ e.n)).length ≤ 8 := Nat.le_trans (List.length_filter_le _ _) (by rw [List.length_take]; omega)
        refine ⟨_, rfl, _, eD, by rw [List.length_map, sizeLine_eq]; omega, fun b o hb => ?_, ?_⟩
        · rw [upd_ne (ne_of_none hb hD)]
          exact s1 _ _ hb
        · rw [upd_same, ht, List.filter_append, List.map_append, List.filter_cons_of_pos (p := fun r : RowT => decide (r.2.1 ≠ e.n)) (decide_eq_true hne)]
          rfl
      · refine ⟨s1, ?_⟩
        have he : ro.2.1 = e.n := by
          by_cases z : ro.2.1 = e.n
          · exact z
          · exact absurd (by rw [decide_eq_false fun q => z (by injection q)]; rfl) hc
        rw [ht, List.filter_append, List.filter_cons_of_neg (by rw [he]; simp)]
        rw [show ([] : List RowT).filter (fun r => decide (r.2.1 ≠ e.n)) = [] from rfl, List.append_nil]
        exact eD
    · rintro H1 ⟨s1, eD⟩
      rw [List.length_map, List.take_length] at eD
      have hr1 := s1 _ _ hr0
      refine ⟨_, rfl, r, _, 0, _, rfl, rfl, SqT.of hr1, rfl, _, rfl, r, _, 1, _, rfl, rfl, SqT.of hr1, rfl, tNil_to (str_of (wy.same s1) hR.pa ?_)⟩
      refine ⟨_, rfl, r, _, 2, _, rfl, rfl, SqT.of hr1, rfl, (by show 3 ≤ sizeLine; decide), fun tp htp => ?_⟩
      have sT := same_new (o := .tup [.str e.n, .str (NX.wtext e.tr e.p e.b e.a), .int e.pr]) htp
      have eT : (upd H1 tp (.tup [.str e.n, .str (NX.wtext e.tr e.p e.b e.a), .int e.pr])) tp = some (.tup [.str e.n, .str (NX.wtext e.tr e.p e.b e.a), .int e.pr]) := upd_same
      generalize upd H1 tp (.tup [.str e.n, .str (NX.wtext e.tr e.p e.b e.a), .int e.pr]) = H2 at sT eT ⊢
      refine tNil_to ⟨(by show 1 ≤ sizeLine; decide), fun M hM => ?_⟩
      have sM := same_new (o := .lst [.ref tp]) hM
      refine ⟨D, M, _, _, rfl, rfl, sM _ _ (sT _ _ eD), upd_same, ?_, fun N hN => ?_⟩
      · rw [List.length_map, sizeLine_eq]
        have := List.length_filter_le (fun r : RowT => decide (r.2.1 ≠ e.n)) rs
        show _ + 1 ≤ _
        omega
      have sN := same_new (o := .lst (((rs.filter fun r => decide (r.2.1 ≠ e.n)).map fun r => V.ref r.1) ++ [.ref tp])) hN
      have S3 := ((s1.trans sT).trans sM).trans sN
      have hrows : ∀ ro ∈ (rs.filter fun r => decide (r.2.1 ≠ e.n)) ++ [(tp, e.row)], RowAt (upd (upd H2 M (.lst [.ref tp])) N (.lst (((rs.filter fun r => decide (r.2.1 ≠ e.n)).map fun r => V.ref r.1) ++ [.ref tp]))) ro := by
        intro ro hro
        rcases List.mem_append.mp hro with hro | hro
        · exact S3 _ _ (h2 ro (List.mem_filter.mp hro).1)
        · rw [List.mem_singleton] at hro
          subst hro
          exact sN _ _ (sM _ _ eT)
      refine tNil_to ⟨N, (rs.filter fun r => decide (r.2.1 ≠ e.n)) ++ [(tp, e.row)], rfl, SqL.of (by rw [upd_same, List.map_append]; rfl), hrows, fun p hp => ?_⟩
      have sP := same_new (o := .lst ((((rs.filter fun r => decide (r.2.1 ≠ e.n)) ++ [(tp, e.row)]).mergeSort rowLe).map fun r => V.ref r.1)) hp
      refine k p _ _ (S3.trans sP) (none_up S3 hp) (IsSt.with (rs := (rs.filter fun r => decide (r.2.1 ≠ e.n)) ++ [(tp, e.row)]) hst ?_) ⟨_, upd_same, fun ro hro => sP _ _ (hrows ro ((List.mergeSort_perm _ _).mem_iff.mp hro)), rfl⟩
      rw [List.map_append, ← h3, List.filter_map]
      rfl

section
variable {X : Cx}
/-- != of data, or of two lists of two lengths, whatever they hold -/
def rNeL (K : PySem.W.Frag) : R2 := fun x y H Q => rNeD K x y H Q ∨ ∃ a b xs ys, x = .ref a ∧ y = .ref b ∧ SqL K H a xs ∧ SqL K H b ys ∧ xs.length ≠ ys.length ∧ Q (.bl true) H
theorem op_neL (hu : X.A.units + 64 < cLine) : OpR X (compareOp .NotEq) (rNeL X.K) := by
  intro pins s σ H x y v u Q I rx ry h
  rcases h with h | ⟨a, b, xs, ys, rfl, rfl, ha, hb, hn, q⟩
  · exact op_neD hu pins s σ H x y v u Q I rx ry h
  · cases rx
    cases ry
    obtain ⟨i1, r1, ⟨o, n, ho, hc, _, hd⟩, _⟩ := I.list ha
    obtain ⟨i2, r2, ⟨o2, n2, ho2, hc2, _, hd2⟩, _⟩ := I.list hb
    have l1 := r1.length
    have l2 := r2.length
    refine (SeqAt.RcNeAt.lists_lengths (items := i1.toArray) (items2 := i2.toArray) ⟨o, ho, hc, n, hd⟩ ⟨o2, ho2, hc2, n2, hd2⟩ ?_ (by omega)) _ _ _ _ ⟨.bl true, H, I, rfl, q⟩
    rw [bne_iff_ne, List.size_toArray, List.size_toArray]
    omega
theorem call_isP2 (K : PySem.W.Frag) (hK : X.K = K) {a : Addr} {oe : Obj} {cls : Value} {dd : Option Addr} (hp : (a, oe) ∈ X.pn) (hz : Zc cls dd oe) (hf : ∃ vs, oe.data = .fields vs) : CallR X (.builtin "isinstance") (rIsP K a cls dd) := by
  subst hK
  exact call_isP (p := (a, oe)) hp hz hf
theorem pe_fldP2 (K : PySem.W.Frag) (hK : X.K = K) {a : Addr} {oe : Obj} {cls : Value} {dd : Option Addr} {e : Expr} {te : TE} {f : Str} {pos : Pos} (hp : (a, oe) ∈ X.pn) (hz : Zc cls dd oe) (hf : ∃ vs, oe.data = .fields vs) (he : PE X e te) (hb : attributeBase e f X.env (eval e X.env) = eval e X.env := by rfl) : PE X (.Attribute e f pos) (tFldP K a cls dd f te) := by
  subst hK
  exact pe_fldP (p := (a, oe)) hp hz hf he hb
end
/-! ### neither the pen nor the shelf -/
def nb (q x : Addr) (H : Hp) : Hp := del (del H q) x
section
variable {q x : Addr} {H H' : Hp}
theorem nb_sub : Same (nb q x H) H := (del_sub (H := del H q)).trans del_sub
theorem nb_at {b : Addr} {o : HO} (h : H b = some o) (n1 : b ≠ q) (n2 : b ≠ x) : nb q x H b = some o := by
  unfold nb
  rw [del_ne n2, del_ne n1]
  exact h
theorem nb_of {b : Addr} {o : HO} (h : nb q x H b = some o) : H b = some o ∧ b ≠ q ∧ b ≠ x := by
  refine ⟨nb_sub _ _ h, fun z => ?_, fun z => ?_⟩
  · have h2 := del_sub (H := del H q) _ _ h
    rw [z, del_same] at h2
    cases h2
  · rw [z] at h
    unfold nb at h
    rw [del_same] at h
    cases h
theorem nb_same (s : Same H H') : Same (nb q x H) (nb q x H') := fun b o h => by
  obtain ⟨h1, h2, h3⟩ := nb_of h
  exact nb_at (s _ _ h1) h2 h3
theorem nb_fr (f : Fr q H H') : Same (nb q x H) (nb q x H') := fun b o h => by
  obtain ⟨h1, h2, h3⟩ := nb_of h
  exact nb_at (f _ _ h2 h1) h2 h3
theorem nb_but (f : But x H H') : Same (nb q x H) (nb q x H') := fun b o h => by
  obtain ⟨h1, h2, h3⟩ := nb_of h
  exact nb_at (f _ _ h3 h1) h2 h3
theorem Pen.but {n : Nat} {C dx : Addr} {fs : List (Str × V)} (hx : H x = some (.ins C dx fs)) (f : But x H H') (h : Pen H q n) : Pen H' q n := by
  obtain ⟨c, ns, i, g, p1, p2, p3⟩ := h
  exact ⟨c, ns, i, g, f _ _ (fun z => by rw [z, hx] at p1; cases p1) p1, f _ _ (fun z => by rw [z, hx] at p2; cases p2) p2, p3⟩
theorem ent_delL {T : Txt K mg} {ys : List V} (hq : H q = some (.lst ys)) {kv : Key × V} {e : Ent} (h : EntAt T H kv e) : EntAt T (del H q) kv e := by
  obtain ⟨t, y, q1, q2, ⟨C, f, c1, dy, q3⟩⟩ := h.v
  exact ⟨h.k, ⟨t, y, q1, del_at hq q2 (fun z => by cases z), ⟨C, f, c1, dy, del_at hq q3 fun z => by cases z⟩⟩, h.pa, h.pr, h.nm⟩
theorem ents_delL {T : Txt K mg} {ys : List V} (hq : H q = some (.lst ys)) : ∀ {kvs : List (Key × V)} {es : List Ent}, PySem.Paired (EntAt T H) kvs es → PySem.Paired (EntAt T (del H q)) kvs es
  | _, _, .nil => .nil
  | _, _, .cons h t => .cons (ent_delL hq h) (ents_delL hq t)
theorem dict_delL {T : Txt K mg} {ys : List V} (hq : H q = some (.lst ys)) {d : Addr} {es : List Ent} (h : DictAt T H d es) : DictAt T (del H q) d es := by
  obtain ⟨kvs, h1, h2, h3⟩ := h
  exact ⟨kvs, del_at hq h1 (fun z => by cases z), ents_delL hq h2, h3⟩
theorem dicts_delL {T : Txt K mg} {ys : List V} (hq : H q = some (.lst ys)) : ∀ {ds : List Addr} {ps : List (List Ent)}, PySem.Paired (DictAt T H) ds ps → PySem.Paired (DictAt T (del H q)) ds ps
  | _, _, .nil => .nil
  | _, _, .cons h t => .cons (dict_delL hq h) (dicts_delL hq t)
theorem past_delL {T : Txt K mg} {ys : List V} (hq : H q = some (.lst ys)) {t : Addr} {ps : List (List Ent)} (h : PastAt T H t ps) : PastAt T (del H q) t ps := by
  obtain ⟨ds, h1, h2⟩ := h
  exact ⟨ds, del_at hq h1 (fun z => by cases z), dicts_delL hq h2⟩
theorem ShAt.fr {T : Txt K mg} {n : Nat} {es : List Ent} {past ahead : List (List Ent)} (hP : Pen H q n) (f : Fr q H H') (h : ShAt T H x es past ahead) : ShAt T H' x es past ahead := by
  obtain ⟨dx, d, t, tp, ta, hx, hI⟩ := h
  obtain ⟨ys, hq⟩ := hP.at
  have nq : q ≠ x := fun z => by rw [z, hx] at hq; cases hq
  have hq2 : del H x q = some (.lst ys) := by rw [del_ne nq]; exact hq
  have s : Same (del (del H x) q) (del H' x) := fun b o hb => by
    have hb1 := del_sub _ _ hb
    have hb2 := del_sub _ _ hb1
    have n1 : b ≠ q := fun z => by rw [z, del_same] at hb; cases hb
    have n2 : b ≠ x := fun z => by rw [z, del_same] at hb1; cases hb1
    rw [del_ne n2]
    exact f _ _ n1 hb2
  obtain ⟨ns, n1, n2⟩ := hI.nm
  exact ⟨dx, d, t, tp, ta, f _ _ (Ne.symm nq) hx, ⟨(dict_delL hq2 hI.di).same s, ⟨ns, s _ _ (del_at hq2 n1 fun z => by cases z), n2⟩, (past_delL hq2 hI.pa).same s, (past_delL hq2 hI.ah).same s⟩⟩
theorem stAt_nb {n : Nat} {C dx : Addr} {fs : List (Str × V)} {l : Addr} {st : List Row} (hP : Pen H q n) (hx : H x = some (.ins C dx fs)) (nl : l ≠ q) (h : StAt H l st) : StAt (nb q x H) l st := by
  obtain ⟨rs, h1, h2, h3⟩ := h
  obtain ⟨ys, hq⟩ := hP.at
  refine ⟨rs, nb_at h1 nl (fun z => by rw [z, hx] at h1; cases h1), fun r hr => ?_, h3⟩
  have z2 : H r.1 = _ := h2 r hr
  exact nb_at z2 (fun z => by rw [z, hq] at z2; cases z2) (fun z => by rw [z, hx] at z2; cases z2)
end

/-- a field, the written part given by hand -/
theorem pe_fldC {X : Cx} {e : Expr} {te : TE} {f : Str} {pos : Pos} (K : PySem.W.Frag) (hK : X.K = K) (he : PE X e te) (hb : attributeBase e f X.env (eval e X.env) = eval e X.env := by rfl) : PE X (.Attribute e f pos) (tFld K te f) := by
  subst hK
  exact pe_fld he hb

/-- NoName of the name n -/
def ErrNo (T : Txt K mg) (H : Hp) (E : XK) (n : Str) : Prop := ∀ (dx : Addr) (H2 : Hp), Same H H2 → H dx = Option.none → H2 dx = some (.xd [("name", .str n)]) → E (.ref T.non.C) (some dx) H2
theorem neS_same (n : Str) : (!decide (V.str n = V.str n)) = false := by rw [decide_eq_true rfl]; rfl
theorem neS_ne {z n : Str} (h : z ≠ n) : (!decide (V.str z = V.str n)) = true := by rw [decide_eq_false fun e => h (by injection e)]; rfl
theorem same_upN {H H' : Hp} {D : Addr} {o : HO} (s : Same H H') (h : H D = Option.none) : Same H (upd H' D o) := fun b u e => by rw [upd_ne (ne_of_none e h)]; exact s _ _ e
/-- the item of one name goes -/
def spShDrop (T : Txt K mg) : Sp := fun vs H Q E => ∃ (x : Addr) (n : Str) (es : List Ent) (past ahead : List (List Ent)), vs = [.ref x, .str n] ∧ ShAt T H x es past ahead ∧ n.length ≤ 8 ∧ past.length < 1000 ∧ (hasE es n = false → ErrNo T H E n) ∧
  (hasE es n = true → ∀ (es' : List Ent) (H' : Hp), But x H H' → (∀ e, e ∈ es' ↔ e ∈ es ∧ e.n ≠ n) → ShAt T H' x es' (past ++ [es]) [] → Q .non H')
theorem ok_Shelf_drop (T : Txt K mg) : FnOk P w K mg base (L2N.CX P w) 3 T.a_Shelf_drop T.fd_Shelf_drop ["self", "name"] (spShDrop T) := by
  refine Fun.okN T.F_Shelf_drop sc_Shelf_drop (fun vs H Q E h => ?_) (fun cdv A outer s H vs Q E hr h => ?_)
  · obtain ⟨x, n, es, past, ahead, rfl, _⟩ := h; rfl
  · obtain ⟨x, n, es, past, ahead, rfl, hS, hn, hpl, kE, k⟩ := h
    refine ⟨_, pss_cons (ps_if (pt_cmpR (op_notInO (ok_Shelf_contains T) (hr.mono (by decide)) (b_Shelf_contains T) pass0 T.fi_in T.fn_in) (pv 1) (pv 0) rfl) (pss_one (L2N.ps_raise rfl (L2N.takes_of rfl rfl rfl rfl) (pmk_noN T.non (hr.mono (by decide)) rfl (pv 1)))) (pss_nil))
      (pss_one (ps_expr (pe_meth (pv 0) T.scls T.s_done (ok_Shelf_done T) (hr.mono (by decide)) (b_Shelf_done T) .nil pass0 (pa_cons (pe_dc (own := [("other", 2)]) (g := gName 2) rfl sc_Shelf_drop.nd (pi_tup (pe_fld (pv 0) rfl)) (blkOk_by (own := [("other", 2)]) (N := ["self", "name", "other"]) (sc := defScope s_Shelf_drop) (by decide +kernel)) (fun _ _ _ _ _ => pg_name (i := 2) sc_Shelf_drop.nd rfl (Or.inl rfl)) (fun _ _ _ _ _ => pts_one (pt_cmpR op_ne (pv 2) (pv 1) (nomark _))) (fun _ _ _ _ _ => pv 2) (fun _ _ _ _ _ => pe_dget (by exact units1 hr.units) (pe_fldC K (by rfl) (pv 0)) (pv 2) (fun _ _ => rfl))) (pa_nil))))), ?_⟩
    obtain ⟨dx, d, t, tp, ta, hx, hI⟩ := hS.fld
    refine ⟨_, rfl, _, rfl, x, dx, _, rfl, hx, x, n, es, past, ahead, rfl, hS, hn, _, rfl, _, rfl, ?_⟩
    cases hh : hasE es n with
    | false =>
      refine iteT ⟨_, rfl, (by show 1 ≤ 1000; decide), fun a2 ha2 => bad_fin1 T.non.oex T.non.no ha2 fun d4 H4 s4 hn4 h4 => kE hh d4 H4 s4 hn4 h4⟩
    | true =>
      refine iteF ?_
      obtain ⟨kvs, h1, h2, h3, h4⟩ := id hI.di
      obtain ⟨ns, n1, n2, n3⟩ := id hI.nm
      refine ⟨_, rfl, x, dx, _, rfl, hx, rfl, _, rfl, x, T.a_Shelf, dx, _, _, rfl, hx, T.scls, na_names T, rfl, t, rfl, ⟨ns.map V.str, SqT.of n1⟩, fun D hD => dc_tup (K := K) (a := t) (xs := ns.map V.str) (fun i H' => ∃ (ks : List (Key × V)) (ei : List Ent), H' D = some (.dK ks) ∧ Same H H' ∧ PySem.Paired (EntAt T H) ks ei ∧ (ei.map (·.n)).Nodup ∧ ei.length ≤ i ∧ ∀ e, e ∈ ei ↔ e ∈ es ∧ e.n ∈ ns.take i ∧ e.n ≠ n)
        ⟨[], [], upd_same, same_new hD, .nil, List.Pairwise.nil, by decide, fun e => by simp⟩ (fun i H' _ h => by
          obtain ⟨_, _, _, s', _⟩ := h
          exact SqT.of (s' _ _ n1)) ?_ ?_⟩
      · rintro i v H' hv ⟨ks, ei, e1, s', hP, hnd, hl8, hm⟩
        rw [List.getElem?_map] at hv
        obtain ⟨z, hz, rfl⟩ := Option.map_eq_some_iff.mp hv
        refine ⟨rfl, ?_⟩
        refine ⟨_, rfl, _, rfl, rfl, _, rfl, ?_⟩
        have hzm : hasE es z = true := hasE_iff.mpr (n3.mem_iff.mp (List.mem_of_getElem? hz))
        obtain ⟨kv, e, m1, m2, m3, m4⟩ := ents_some h2 hzm
        have tk : ∀ y, y ∈ ns.take (i + 1) ↔ y ∈ ns.take i ∨ y = z := fun y => by
          rw [List.take_add_one, hz, List.mem_append]
          simp
        have hil : i < ns.length := (List.getElem?_eq_some_iff.mp hz).1
        have hnl : ns.length ≤ 8 := by rw [n3.length_eq, List.length_map]; exact h4
        by_cases hne : z = n
        · refine if_false_of (by rw [hne]; exact neS_same n) ⟨ks, ei, e1, s', hP, hnd, by omega, fun y => ?_⟩
          rw [hm y, tk y.n]
          constructor
          · rintro ⟨a1, a2, a3⟩
            exact ⟨a1, .inl a2, a3⟩
          · rintro ⟨a1, a2 | a2, a3⟩
            · exact ⟨a1, a2, a3⟩
            · exact absurd (a2.trans hne) a3
        · refine if_true_of (neS_ne hne) ?_
          have hx' := s' _ _ hx
          refine ⟨_, rfl, _, rfl, x, T.a_Shelf, dx, _, _, rfl, hx', T.scls, na_items T, rfl, _, rfl, d, kv.2, rfl, m3 ▸ DGet.k (k := .inr z) (s' _ _ h1), ks, .inr z, rfl, e1, ?_, putK ks (.inr z) kv.2, putE ei e, upd_same, same_upN s' hD, ?_, putE_nodup hnd, ?_, fun y => ?_⟩
          · rw [paired_len hP, sizeLine_eq]; omega
          · have m4' : EntAt T H (.inr e.n, kv.2) e := ⟨rfl, m4.v, m4.pa, m4.pr, m4.nm⟩
            have := ents_put hP m4'
            rw [m2] at this
            exact this
          · rw [putE_len]
            split <;> omega
          · rw [putE_mem, hm y, tk y.n]
            constructor
            · rintro (rfl | ⟨⟨a1, a2, a3⟩, a4⟩)
              · exact ⟨m1, .inr m2, by rw [m2]; exact hne⟩
              · exact ⟨a1, .inl a2, a3⟩
            · rintro ⟨a1, a2 | a2, a3⟩
              · by_cases q : y.n = e.n
                · exact .inl (ent_uniq h3 a1 m1 q)
                · exact .inr ⟨⟨a1, a2, a3⟩, q⟩
              · exact .inl (ent_uniq h3 a1 m1 (a2.trans m2.symm))
      · rintro H' ⟨ks, ei, e1, s', hP, hnd, hl8, hm⟩
        rw [List.length_map, List.take_length] at hm
        rw [List.length_map, n3.length_eq, List.length_map] at hl8
        refine tNil_to ⟨x, D, es, ei, past, ahead, rfl, hS.same s', ⟨ks, e1, ents_same s' hP, hnd, by omega⟩, hpl, fun H2 b2 hS2 => ?_⟩
        refine k hh ei H2 ((But.of s').trans b2) (fun e => ?_) hS2
        rw [hm e]
        exact ⟨fun ⟨a1, _, a3⟩ => ⟨a1, a3⟩, fun ⟨a1, a3⟩ => ⟨a1, n3.mem_iff.mpr (List.mem_map_of_mem a1), a3⟩⟩

theorem num_asc {n : Int} (h : 0 ≤ n) : ∀ c ∈ TL.tl (NX.num n), c < 128 ∧ c ≠ 32 := by
  obtain ⟨m, rfl⟩ := Int.eq_ofNat_of_zero_le h
  intro c hc
  rw [NX.tl_num] at hc
  have z := List.all_eq_true.mp (NX.canon_dig (NX.numL_canon m)) c hc
  simp only [Bool.and_eq_true, decide_eq_true_eq] at z
  omega
theorem wtext_asc {tr : Bool} {p b a : Int} (hp : 0 ≤ p) (hb : 0 ≤ b) (ha : 0 ≤ a) : ∀ c ∈ TL.tl (NX.wtext tr p b a), c < 128 := by
  have k1 : ∀ c ∈ TL.tl ("wheel " : Str), c < 128 := by decide
  have k2 : ∀ c ∈ TL.tl (" " : Str), c < 128 := by decide
  have k3 : ∀ c ∈ TL.tl ("grid " : Str), c < 128 := by decide
  intro c hc
  cases tr with
  | true =>
    have hc : c ∈ TL.tl (("grid " : Str) ++ NX.num p) := hc
    rw [TL.tl_append, List.mem_append] at hc
    exact hc.elim (k3 c) fun z => (num_asc hp c z).1
  | false =>
    have hc : c ∈ TL.tl (("wheel " : Str) ++ NX.num p ++ " " ++ NX.num b ++ " " ++ NX.num a) := hc
    simp only [TL.tl_append, List.mem_append] at hc
    rcases hc with ((((z | z) | z) | z) | z) | z
    · exact k1 c z
    · exact (num_asc hp c z).1
    · exact k2 c z
    · exact (num_asc hb c z).1
    · exact k2 c z
    · exact (num_asc ha c z).1
theorem strOk_tl {w : Str} (h : ∀ c ∈ TL.tl w, c < 128) : PyData.canLay0 (.str w) = true := by
  have : ∀ c ∈ w.cps.toList, c < 128 := h
  simp only [PyData.canLay0, PyData.strOk]
  rw [Array.all_eq_true']
  intro c hc
  have := this c (by simpa using hc)
  simp
  omega
/-- a row as data -/
def rowP (r : Row) : PyData := .tuple [.str r.1, .str r.2.1, .int r.2.2]
def stD (st : List Row) : PyData := .list (st.map rowP)
theorem rows_dp {K : PySem.W.Frag} {H : Hp} : ∀ rs : List RowT, (∀ r ∈ rs, RowAt H r) → DpAll K H (rs.map fun r => V.ref r.1) ((rs.map (·.2)).map rowP)
  | [], _ => .nil
  | r :: rs, h => .cons (.tup (SqT.of (h r List.mem_cons_self)) (.cons (.str _) (.cons (.str _) (.cons (.int _) .nil)))) (rows_dp rs fun r' hr => h r' (List.mem_cons_of_mem _ hr))
theorem StAt.dp {K : PySem.W.Frag} {H : Hp} {l : Addr} {st : List Row} (h : StAt H l st) : Dp K H (.ref l) (stD st) := by
  obtain ⟨rs, h1, h2, rfl⟩ := h
  exact .lst (SqL.of h1) (rows_dp rs h2)
def RowS (r : Row) : Prop := PyData.canLay0 (.str r.1) = true ∧ PyData.canLay0 (.str r.2.1) = true
theorem stD_lay : ∀ st : List Row, (∀ r ∈ st, RowS r) → PyData.canLayAll0 (st.map rowP) = true ∧ PyData.depthAll (st.map rowP) ≤ 2
  | [], _ => ⟨rfl, Nat.zero_le _⟩
  | r :: st, h => by
    obtain ⟨i1, i2⟩ := stD_lay st fun r' hr => h r' (List.mem_cons_of_mem _ hr)
    obtain ⟨h1, h2⟩ := h r List.mem_cons_self
    constructor
    · show ((PyData.canLay0 (.str r.1) && (PyData.canLay0 (.str r.2.1) && true)) && PyData.canLayAll0 (st.map rowP)) = true
      rw [h1, h2, i1]
      rfl
    · have e : PyData.depth (rowP r) ≤ 2 := by
        unfold rowP
        simp only [PyData.depth, PyData.depthAll]
        decide
      rw [List.map_cons]
      simp only [PyData.depthAll]
      omega
theorem stD_ok {st : List Row} (h : ∀ r ∈ st, RowS r) : (stD st).canLay0 = true ∧ SeqAt.shaped (stD st) = true := by
  obtain ⟨i1, i2⟩ := stD_lay st h
  have e : (stD st).canLay0 = true := i1
  refine ⟨e, ?_⟩
  unfold SeqAt.shaped
  rw [e, Bool.true_and]
  refine decide_eq_true ?_
  unfold stD
  simp only [PyData.depth]
  omega
theorem ents_rows {T : Txt K mg} {H : Hp} : ∀ {kvs : List (Key × V)} {es : List Ent}, PySem.Paired (EntAt T H) kvs es → ∀ e ∈ es, RowS e.row
  | _, _, .nil, _, h => absurd h List.not_mem_nil
  | _, _, .cons x t, e, h => by
    rcases List.mem_cons.mp h with rfl | h
    · have p1 := x.pa.hp.1
      refine ⟨strOk_tl fun c hc => ?_, strOk_tl (wtext_asc (by omega) x.pa.hb.1 x.pa.ha.1)⟩
      have nm := x.nm
      have nm : (decide (1 ≤ (e.n.length : Int) ∧ (e.n.length : Int) ≤ 8) && (Txt.isascii e.n && (Txt.isalpha e.n && Txt.islower e.n))) = true := nm
      rw [Bool.and_eq_true, Bool.and_eq_true] at nm
      have a := nm.2.1
      unfold Txt.isascii at a
      rw [← Array.all_toList, List.all_eq_true] at a
      exact of_decide_eq_true (a c hc)
    · exact ents_rows t e h
/-- the state of a shelf can be compared -/
theorem ShAt.rows {T : Txt K mg} {H : Hp} {x : Addr} {es : List Ent} {past ahead : List (List Ent)} {st : List Row} (h : ShAt T H x es past ahead) (hst : IsSt es st) : (stD st).canLay0 = true ∧ SeqAt.shaped (stD st) = true := by
  obtain ⟨dx, d, t, tp, ta, hx, hI⟩ := h.fld
  obtain ⟨kvs, _, h2, _, _⟩ := hI.di
  refine stD_ok fun r hr => ?_
  obtain ⟨e, he, rfl⟩ := List.mem_map.mp ((hst.2 r).mp hr)
  exact ents_rows h2 e he
/-- the words of a shelf that refused -/
def badW (i : Nat) : PyData := .tuple [.str "BADDEED", .int (i : Nat), .bool true, .bool true, .bool false]
theorem badW_ok : ∀ i : Nat, i < 6 → (badW i).showable = true ∧ (badW i).depth ≤ 60 ∧ (badW i).shown.length ≤ 1000 := by decide +kernel
theorem run_lt : ∀ {os : List (Option Ent)} {i j : Nat} {es : List Ent}, runR i es os = .error j → i ≤ j ∧ j < i + os.length
  | [], _, _, _, h => by cases h
  | Option.none :: r, i, j, es, h => by
    have h : Except.error i = (Except.error j : Except Nat (List Ent)) := h
    cases h
    exact ⟨Nat.le_refl _, by simp⟩
  | some e :: r, i, j, es, h => by
    have h : (if fullE es e = true then Except.error i else runR (i + 1) (putE es e) r) = Except.error j := h
    by_cases q : fullE es e = true
    · rw [if_pos q] at h
      cases h
      exact ⟨Nat.le_refl _, by simp⟩
    · rw [if_neg q] at h
      have := run_lt h
      rw [List.length_cons]
      omega
theorem pair_dp {K : PySem.W.Frag} {H : Hp} {p : Addr} {a b : Int} (h : H p = some (.tup [.int a, .int b])) : Dp K H (.ref p) (.tuple [.int a, .int b]) := .tup (SqT.of h) (.cons (.int _) (.cons (.int _) .nil))
theorem pair_ok (a b : Int) : (PyData.tuple [.int a, .int b]).canLay0 = true ∧ SeqAt.shaped (.tuple [.int a, .int b]) = true := by
  have e : (PyData.tuple [.int a, .int b]).canLay0 = true := rfl
  refine ⟨e, ?_⟩
  unfold SeqAt.shaped
  rw [e, Bool.true_and]
  refine decide_eq_true ?_
  simp only [PyData.depth, PyData.depthAll]
  decide

theorem shown_int120 {i : Int} (h : i.natAbs < 10 ^ 120) : (PyData.shown (.int i)).length ≤ 121 := by
  have e := int_text_length_le10 (k := 120) (by decide) h
  show (Str.ofString (toString i)).length ≤ 121
  rw [PySem.ofString_length]; exact e
theorem log_int120 {i : Int} (h : i.natAbs < 10 ^ 120) : i.natAbs.log2 < 399 := by
  by_cases n0 : i.natAbs = 0
  · rw [n0]; decide
  · exact (Nat.log2_lt n0).mpr (Nat.lt_of_lt_of_le h (by decide +kernel))
theorem weight_int120 {i : Int} (h : i.natAbs < 10 ^ 120) : (PyData.int i).weight ≤ 400 := by
  have l := log_int120 h
  simp only [PyData.weight]
  split <;> omega
/-- shown without harm -/
def Fine (n : Nat) (d : PyData) : Prop := d.showable = true ∧ d.leavesShort 121 = true ∧ d.weight ≤ n
theorem Fine.int {i : Int} (h : i.natAbs < 10 ^ 120) : Fine 400 (.int i) := by
  have l := log_int120 h
  refine ⟨?_, ?_, weight_int120 h⟩
  · simp only [PyData.showable, decide_eq_true_eq]; omega
  · simp only [PyData.leavesShort, decide_eq_true_eq]; exact shown_int120 h
def FineAll (n : Nat) (ds : List PyData) : Prop := PyData.showableAll ds = true ∧ PyData.leavesShortAll 121 ds = true ∧ PyData.weightAll ds ≤ n
theorem FineAll.nil : FineAll 0 [] := ⟨rfl, rfl, Nat.le_refl _⟩
theorem FineAll.cons {n m : Nat} {d : PyData} {ds : List PyData} (h : Fine n d) (g : FineAll m ds) : FineAll (n + 1 + m) (d :: ds) := by
  refine ⟨?_, ?_, ?_⟩
  · simp only [PyData.showableAll, h.1, g.1, Bool.and_self]
  · simp only [PyData.leavesShortAll, h.2.1, g.2.1, Bool.and_self]
  · have := h.2.2
    have := g.2.2
    simp only [PyData.weightAll]
    omega
theorem FineAll.tup {n : Nat} {ds : List PyData} (h : FineAll n ds) : Fine n (.tuple ds) :=
  ⟨by simp only [PyData.showable, h.1], by simp only [PyData.leavesShort, h.2.1], by simp only [PyData.weight]; exact h.2.2⟩
theorem Fine.mono {n m : Nat} {d : PyData} (l : n ≤ m) (h : Fine n d) : Fine m d := ⟨h.1, h.2.1, Nat.le_trans h.2.2 l⟩
theorem Fine.size {n : Nat} {d : PyData} (h : Fine n d) (l : n ≤ 10000) : d.shown.length ≤ sizeLine := by
  have z := PyData.shown_le 121 (by decide) d h.2.1
  have h2 : (121 + 2) * d.weight ≤ 123 * 10000 := Nat.mul_le_mul (by omega) (Nat.le_trans h.2.2 l)
  rw [sizeLine_eq]
  omega

theorem takes0N {X : Cx} : L2N.Takes X (fun _ _ _ _ => False) := fun _ _ x => by
  obtain ⟨_, _, _, _, _, _, _, _, _, _, _, _, _, _, _, _, z⟩ := x
  exact z.elim
/-- all but these stays -/
def ButS (S : List Addr) (H H' : Hp) : Prop := ∀ b o, b ∉ S → H b = some o → H' b = some o
theorem ButS.refl (S : List Addr) (H : Hp) : ButS S H H := fun _ _ _ e => e
theorem ButS.trans {S : List Addr} {H H1 H2 : Hp} (s : ButS S H H1) (t : ButS S H1 H2) : ButS S H H2 := fun b o n e => t b o n (s b o n e)
theorem ButS.sub {S S' : List Addr} {H H' : Hp} (h : ∀ a ∈ S, a ∈ S') (s : ButS S H H') : ButS S' H H' := fun b o n e => s b o (fun z => n (h b z)) e
theorem ButS.of {S : List Addr} {H H' : Hp} (s : Same H H') : ButS S H H' := fun b o _ e => s b o e
theorem ButS.but {x : Addr} {S : List Addr} {H H' : Hp} (hx : x ∈ S) (s : But x H H') : ButS S H H' := fun b o n e => s b o (fun z => n (z ▸ hx)) e
theorem ButS.fr {q : Addr} {S : List Addr} {H H' : Hp} (hq : q ∈ S) (s : Fr q H H') : ButS S H H' := fun b o n e => s b o (fun z => n (z ▸ hq)) e
/-- what changes: a list or a shelf -/
def Mut (T : Txt K mg) (H : Hp) (a : Addr) : Prop := (∃ ys, H a = some (.lst ys)) ∨ ∃ dx v1 v2 v3 v4, H a = some (.ins T.a_Shelf dx (shFs v1 v2 v3 v4))
theorem Mut.same {T : Txt K mg} {H H' : Hp} {a : Addr} (s : Same H H') (h : Mut T H a) : Mut T H' a := by
  rcases h with ⟨ys, h⟩ | ⟨dx, v1, v2, v3, v4, h⟩
  · exact .inl ⟨ys, s _ _ h⟩
  · exact .inr ⟨dx, v1, v2, v3, v4, s _ _ h⟩
section
variable {T : Txt K mg} {S : List Addr} {H H' : Hp}
theorem Mut.tup {a : Addr} {xs : List V} (h : Mut T H a) : H a ≠ some (.tup xs) := by
  rcases h with ⟨ys, h⟩ | ⟨dx, v1, v2, v3, v4, h⟩ <;> (rw [h]; intro z; cases z)
theorem Mut.dK {a : Addr} {xs : List (Key × V)} (h : Mut T H a) : H a ≠ some (.dK xs) := by
  rcases h with ⟨ys, h⟩ | ⟨dx, v1, v2, v3, v4, h⟩ <;> (rw [h]; intro z; cases z)
theorem Mut.wh {a C dx : Addr} {v1 v2 v3 : V} (h : Mut T H a) : H a ≠ some (.ins C dx [("period", v1), ("back", v2), ("ahead", v3)]) := by
  rcases h with ⟨ys, h⟩ | ⟨dx, v1, v2, v3, v4, h⟩
  · rw [h]; intro z; cases z
  · rw [h]; intro z
    have z := Option.some.inj z
    injection z with z1 z2 z3
    injection z3 with z4 z5
    injection z4 with z6 z7
    exact absurd z6 (by decide)
end
section
variable {T : Txt K mg} {S : List Addr} {H H' : Hp} (hm : ∀ a ∈ S, Mut T H a) (b : ButS S H H')
include hm b
theorem tup_stay {a : Addr} {xs : List V} (h : H a = some (.tup xs)) : H' a = some (.tup xs) := b _ _ (fun z => (hm a z).tup h) h
theorem dK_stay {a : Addr} {xs : List (Key × V)} (h : H a = some (.dK xs)) : H' a = some (.dK xs) := b _ _ (fun z => (hm a z).dK h) h
theorem row_stay {r : RowT} (h : RowAt H r) : RowAt H' r := tup_stay hm b h
theorem StAt.stay {l : Addr} {st : List Row} (hl : l ∉ S) (h : StAt H l st) : StAt H' l st := by
  obtain ⟨rs, h1, h2, h3⟩ := h
  exact ⟨rs, b _ _ hl h1, fun r hr => row_stay hm b (h2 r hr), h3⟩
theorem WhE.stay {y : Addr} {tr : Bool} {p q a : Int} (h : WhE T H y tr p q a) : WhE T H' y tr p q a := by
  obtain ⟨C, f, c1, dy, q3⟩ := h
  exact ⟨C, f, c1, dy, b _ _ (fun z => (hm _ z).wh q3) q3⟩
theorem ent_stay {kv : Key × V} {e : Ent} (h : EntAt T H kv e) : EntAt T H' kv e := by
  obtain ⟨t, y, q1, q2, q3⟩ := h.v
  exact ⟨h.k, ⟨t, y, q1, tup_stay hm b q2, q3.stay hm b⟩, h.pa, h.pr, h.nm⟩
theorem ents_stay : ∀ {kvs : List (Key × V)} {es : List Ent}, PySem.Paired (EntAt T H) kvs es → PySem.Paired (EntAt T H') kvs es
  | _, _, .nil => .nil
  | _, _, .cons h t => .cons (ent_stay hm b h) (ents_stay t)
theorem DictAt.stay {d : Addr} {es : List Ent} (h : DictAt T H d es) : DictAt T H' d es := by
  obtain ⟨kvs, h1, h2, h3⟩ := h
  exact ⟨kvs, dK_stay hm b h1, ents_stay hm b h2, h3⟩
theorem dicts_stay : ∀ {ds : List Addr} {ps : List (List Ent)}, PySem.Paired (DictAt T H) ds ps → PySem.Paired (DictAt T H') ds ps
  | _, _, .nil => .nil
  | _, _, .cons h t => .cons (h.stay hm b) (dicts_stay t)
theorem PastAt.stay {t : Addr} {ps : List (List Ent)} (h : PastAt T H t ps) : PastAt T H' t ps := by
  obtain ⟨ds, h1, h2⟩ := h
  exact ⟨ds, tup_stay hm b h1, dicts_stay hm b h2⟩
end
theorem ShAt.stay {T : Txt K mg} {S : List Addr} {H H' : Hp} {x : Addr} {es : List Ent} {past ahead : List (List Ent)} (hm : ∀ a ∈ S, Mut T H a) (b : ButS S H H') (hx : x ∉ S) (h : ShAt T H x es past ahead) : ShAt T H' x es past ahead := by
  obtain ⟨dx, d, t, tp, ta, h1, hI⟩ := h
  have hm2 : ∀ a ∈ S, Mut T (del H x) a := fun a ha => by
    have n : a ≠ x := fun z => hx (z ▸ ha)
    unfold Mut
    rw [del_ne n]
    exact hm a ha
  have b2 : ButS S (del H x) (del H' x) := fun a o n e => by
    by_cases z : a = x
    · rw [z, del_same] at e; cases e
    · rw [del_ne z] at e ⊢
      exact b _ _ n e
  obtain ⟨ns, n1, n2⟩ := hI.nm
  exact ⟨dx, d, t, tp, ta, b _ _ hx h1, ⟨hI.di.stay hm2 b2, ⟨ns, tup_stay hm2 b2 n1, n2⟩, hI.pa.stay hm2 b2, hI.ah.stay hm2 b2⟩⟩
/-- one state of one list of items -/
def StOf (S : List Addr) (H : Hp) (l : Addr) (es : List Ent) : Prop := l ∉ S ∧ ∃ st, StAt H l st ∧ IsSt es st
/-- a shelf that was led: its states, at Ls the list of them, where it stands -/
structure LedAt (T : Txt K mg) (S : List Addr) (ns : List Str) (H : Hp) (x Ls : Addr) (hist : List (List Ent)) (i : Nat) : Prop where
  xS : x ∈ S
  lS : Ls ∈ S
  cur : ∃ es, hist[i]? = some es ∧ ShAt T H x es (hist.take i) (hist.drop (i + 1)).reverse
  sts : ∃ ls : List Addr, H Ls = some (.lst (ls.map V.ref)) ∧ PySem.Paired (StOf S H) ls hist
  sub : ∀ es ∈ hist, ∀ e ∈ es, e.n ∈ ns
theorem sts_stay {T : Txt K mg} {S S' : List Addr} {H H' : Hp} (h : ∀ a ∈ S', a ∈ S) (hm : ∀ a ∈ S', Mut T H a) (b : ButS S' H H') : ∀ {ls : List Addr} {hist : List (List Ent)}, PySem.Paired (StOf S H) ls hist → PySem.Paired (StOf S H') ls hist
  | _, _, .nil => .nil
  | _, _, .cons ⟨h1, st, h2, h3⟩ t => .cons ⟨h1, st, h2.stay hm b (fun z => h1 (h _ z)), h3⟩ (sts_stay h hm b t)
theorem LedAt.stay {T : Txt K mg} {S S' : List Addr} {ns : List Str} {H H' : Hp} {x Ls : Addr} {hist : List (List Ent)} {i : Nat} (h : ∀ a ∈ S', a ∈ S) (hm : ∀ a ∈ S', Mut T H a) (b : ButS S' H H') (hx : x ∉ S') (hl : Ls ∉ S') (L : LedAt T S ns H x Ls hist i) : LedAt T S ns H' x Ls hist i := by
  obtain ⟨es, e1, e2⟩ := L.cur
  obtain ⟨ls, l1, l2⟩ := L.sts
  exact ⟨L.xS, L.lS, ⟨es, e1, e2.stay hm b hx⟩, ⟨ls, b _ _ hl l1, sts_stay h hm b l2⟩, L.sub⟩
theorem LedAt.same {T : Txt K mg} {S : List Addr} {ns : List Str} {H H' : Hp} {x Ls : Addr} {hist : List (List Ent)} {i : Nat} (s : Same H H') (L : LedAt T S ns H x Ls hist i) : LedAt T S ns H' x Ls hist i := L.stay (S' := []) (fun _ z => absurd z List.not_mem_nil) (fun _ z => absurd z List.not_mem_nil) (ButS.of s) List.not_mem_nil List.not_mem_nil

def spStands (T : Txt K mg) : Sp := fun vs H Q _ => ∃ (x Ls : Addr) (S : List Addr) (ns : List Str) (hist : List (List Ent)) (i : Nat), vs = [.ref x, .ref Ls, .int (i : Nat)] ∧ LedAt T S ns H x Ls hist i ∧ hist.length ≤ 200 ∧ ∀ H', Same H H' → Q (.bl true) H'
def pairD (a b : Nat) : PyData := .tuple [.int (a : Nat), .int (b : Nat)]
theorem pairD_fine {a b : Nat} (ha : a ≤ 200) (hb : b ≤ 200) : (pairD a b).showable = true ∧ (pairD a b).depth ≤ 60 ∧ (pairD a b).shown.length ≤ sizeLine := by
  have z : ∀ {n : Nat}, n ≤ 200 → ((n : Nat) : Int).natAbs < 10 ^ 120 := fun h => by
    rw [Int.natAbs_natCast]
    exact Nat.lt_of_le_of_lt h (by decide +kernel)
  have f := (FineAll.cons (Fine.int (z ha)) (FineAll.cons (Fine.int (z hb)) FineAll.nil)).tup
  refine ⟨f.1, ?_, f.size (by decide)⟩
  simp only [pairD, PyData.depth, PyData.depthAll]
  omega
theorem at_nat {xs : List V} {i : Nat} {v : V} (h : xs[i]? = some v) : atI xs (i : Nat) = some v := by
  have hl := (List.getElem?_eq_some_iff.mp h).1
  unfold atI ixN
  rw [if_pos (by omega)]
  rw [if_pos (by omega)]
  exact h
theorem ok_stands (HP : PrF lawFile P) (T : Txt K mg) (W : Whl T) : FnG P w K mg base CX0 8 T.a_stands (spStands T) := by
  refine FnG.mk0 T.F_stands sc_stands (b_stands T) (fun vs H Q E h => ?_) (fun cdv A outer s H vs Q E gu hr h => ?_)
  · obtain ⟨x, Ls, S, ns, hist, i, rfl, _⟩ := h; rfl
  · obtain ⟨x, Ls, S, ns, hist, i, rfl, hL, hl, k⟩ := h
    refine ⟨_, pss_cons (ps_set (i := 3) sc_stands.nd rfl (Or.inl rfl) (pe_tup (pa_cons (pe_propW (pv 0) T.p_can_undo (ok_Shelf_can_undo T) (hr.mono (by decide)) (b_Shelf_can_undo T) .nil pass0 rfl) (pa_cons (pe_propW (pv 0) T.p_can_redo (ok_Shelf_can_redo T) (hr.mono (by decide)) (b_Shelf_can_redo T) .nil pass0 rfl) (pa_nil)))))
      (pss_one (ps_ret (pe_and (pe_cmpR (op_eqD hr.units) (pe_call (ok_state HP T W) (hr.mono (by decide)) rfl T.m_state T.F_state.kp (b_state T) .nil pass0 (pa_cons (pv 0) (pa_nil))) (pe_ix ix_list (pv 1) (pv 2) (fun _ _ => rfl)) (nomark _)) (pe_one (pe_cmpR op_eq (pe_callB (call_rep gu hr.units) (by rfl) T.n_repr (by decide +kernel) (pa_cons (pv 3) (pa_nil))) (pe_callB (call_rep gu hr.units) (by rfl) T.n_repr (by decide +kernel) (pa_cons (pe_tup (pa_cons (pv 2) (pa_cons (pe_op op_sub (pe_op op_sub (pe_callB call_len_seq (by rfl) T.n_len (by decide +kernel) (pa_cons (pv 1) (pa_nil))) (pe_int)) (pv 2)) (pa_nil)))) (pa_nil))) (nomark _)))))), ?_⟩
    obtain ⟨es, e1, hS⟩ := hL.cur
    obtain ⟨ls, l1, l2⟩ := hL.sts
    have hi := (List.getElem?_eq_some_iff.mp e1).1
    have ll : ls.length = hist.length := paired_len l2
    obtain ⟨l', hl', hno, st', hSt', hst'⟩ : ∃ l', ls[i]? = some l' ∧ StOf S H l' es := by
      have q : ls[i]? = some (ls[i]'(by omega)) := List.getElem?_eq_getElem (by omega)
      obtain ⟨b, b1, b2⟩ := paired_get l2 q
      rw [e1] at b1
      cases b1
      exact ⟨_, q, b2⟩
    obtain ⟨dx, d, t, tp, ta, hx, hI⟩ := hS.fld
    refine ⟨_, rfl, x, T.a_Shelf, dx, _, rfl, hx, T.scls, T.pr_undo, x, es, _, _, rfl, hS, ?_⟩
    refine ⟨_, rfl, x, T.a_Shelf, dx, _, rfl, hx, T.scls, T.pr_redo, x, es, _, _, rfl, hS, tNil_to ⟨(by show 2 ≤ sizeLine; decide), fun c hc => ?_⟩⟩
    rw [show (hist.take i).length = i by rw [List.length_take]; omega, show (hist.drop (i + 1)).reverse.length = hist.length - 1 - i by rw [List.length_reverse, List.length_drop]; omega]
    have sc := same_new (o := .tup [.int (i : Nat), .int (hist.length - 1 - i : Nat)]) hc
    have hcU : (upd H c (.tup [.int (i : Nat), .int (hist.length - 1 - i : Nat)])) c = some (.tup [.int (i : Nat), .int (hist.length - 1 - i : Nat)]) := upd_same
    generalize upd H c (.tup [.int (i : Nat), .int (hist.length - 1 - i : Nat)]) = G at sc hcU ⊢
    refine ⟨_, rfl, x, es, _, _, rfl, hS.same sc, fun l st H2 s2 hl2 hst hSt => ?_⟩
    have S2 := sc.trans s2
    obtain rfl := hst.uniq hst'
    have ok := ShAt.rows hS hst
    refine ⟨_, rfl, _, rfl, Ls, _, (i : Nat), .ref l', rfl, rfl, SqL.of (S2 _ _ l1), at_nat (by rw [List.getElem?_map, hl']; rfl), ?_⟩
    refine ⟨stD st, stD st, hSt.dp, (hSt'.same S2).dp, ok.2, ok.2, _, rfl, ?_⟩
    rw [SeqAt.eqv_refl _ ok.1]
    refine iteT ?_
    obtain ⟨p1, p2, p3⟩ := pairD_fine (a := i) (b := hist.length - 1 - i) (by omega) (by omega)
    refine ⟨_, rfl, .ref c, pairD i (hist.length - 1 - i), rfl, .dp (.tup (SqT.of (s2 _ _ hcU)) (.cons (.int _) (.cons (.int _) .nil))), p1, p2, .inr p3, ?_⟩
    refine ⟨_, rfl, _, rfl, Ls, _, rfl, .inl (SqL.of (S2 _ _ l1)), ?_⟩
    refine ⟨_, _, rfl, rfl, _, rfl, _, _, rfl, rfl, ?_⟩
    dsimp only
    rw [show ((ls.map V.ref).length : Int) - 1 - (i : Nat) = ((hist.length - 1 - i : Nat) : Int) by rw [List.length_map]; omega]
    refine tNil_to ⟨(by show 2 ≤ sizeLine; decide), fun c2 hc2 => tNil_to ?_⟩
    have sc2 := same_new (o := .tup [.int (i : Nat), .int (hist.length - 1 - i : Nat)]) hc2
    refine ⟨.ref c2, pairD i (hist.length - 1 - i), rfl, .dp (.tup (SqT.of upd_same) (.cons (.int _) (.cons (.int _) .nil))), p1, p2, .inr p3, ?_⟩
    generalize (pairD i (hist.length - 1 - i)).shown = zz
    refine ⟨rfl, ?_⟩
    rw [decide_eq_true rfl]
    exact k _ (S2.trans sc2)
/-- what the text has of the two errors that the steps and deeds catch -/
structure Caught1 (T : Txt K mg) : Prop where
  exN : PySem.W.exmOne K (.ref T.noth.C) (.ref T.noth.C) = some true
  eN : ErrC K T.noth.C
  kN : PySem.W.kitOne K (.ref T.noth.C) (.ref T.R) = some true
  exO : PySem.W.exmOne K (.ref T.non.C) (.ref T.non.C) = some true
  eO : ErrC K T.non.C
/-- one step back or forth; whether there was one -/
def spStep (T : Txt K mg) : Sp := fun vs H Q _ => ∃ (x : Addr) (way : Str) (es : List Ent) (past ahead : List (List Ent)), vs = [.ref x, .str way] ∧ (way = "undo" ∨ way = "redo") ∧ ShAt T H x es past ahead ∧ past.length < 1000 ∧ ahead.length < 1000 ∧
  (way = "undo" → (past = [] → ∀ H', Same H H' → Q (.bl false) H') ∧ ∀ p e1, past = p ++ [e1] → ∀ H', But x H H' → ShAt T H' x e1 p (ahead ++ [es]) → Q (.bl true) H') ∧
  (way = "redo" → (ahead = [] → ∀ H', Same H H' → Q (.bl false) H') ∧ ∀ p e1, ahead = p ++ [e1] → ∀ H', But x H H' → ShAt T H' x e1 (past ++ [es]) p → Q (.bl true) H')
theorem ok_step (T : Txt K mg) (B1 : Caught1 T) : FnOk P w K mg base CX0 4 T.a_step T.fd_step ["_law_shelf", "_law_way"] (spStep T) := by
  refine T.F_step.ok sc_step (fun vs H Q E h => ?_) (fun cdv A outer s H vs Q E hr h => ?_)
  · obtain ⟨x, way, es, past, ahead, rfl, _⟩ := h; rfl
  · obtain ⟨x, way, es, past, ahead, rfl, hw, hS, hp, ha, ku, kr⟩ := h
    refine ⟨_, pss_cons (L2N.ps_try_as (i := 3) (c := .ref T.noth.C) rfl rfl sc_step.nd rfl rfl ⟨rfl, by decide, .inl T.noth.m⟩ takes0N (fun W1 pn xe tk _ => pss_one (ps_set (i := 2) sc_step.nd rfl (Or.inl rfl) (pe_ifExp (pt_cmpR op_eq (pv 1) (pe_str) (nomark _)) (pe_methRS0 (pv 0) T.scls T.s_undo ((ok_Shelf_undo T).raw (b_Shelf_undo T) .nil) (hr.mono (by decide)) (fun σ => L2N.passAt tk σ)) (pe_methRS0 (pv 0) T.scls T.s_redo ((ok_Shelf_redo T).raw (b_Shelf_redo T) .nil) (hr.mono (by decide)) (fun σ => L2N.passAt tk σ))))) (fun a oe cls d pn hz hd => pss_one (ps_ret (pe_not (pe_callB (call_isP0 K rfl List.mem_cons_self (L2N.Zn.zc hz) hd) (by rfl) T.n_isinstance (by decide +kernel) (pa_cons (pv 3) (pa_cons (pe_glob (v := .ref T.R) rfl T.m_R rfl) (pa_nil))))))))
      (pss_one (ps_ret (pe_cmpR op_isN (pv 2) (pe_non) (nomark _)))), ?_⟩
    obtain ⟨dx, d, t, tp, ta, hx, hI⟩ := hS.fld
    refine ⟨_, rfl, rfl, _, rfl, ?_⟩
    rcases hw with rfl | rfl
    · refine if_true_of (by rw [decide_eq_true rfl]) ⟨_, rfl, x, dx, _, rfl, hx, rfl, x, es, past, ahead, rfl, hS, ha, hp, fun e => ?_, fun p e1 e H' b hS' => ?_⟩
      · refine ⟨true, B1.exN, fun _ a ha => ?_, fun z => nomatch z⟩
        refine ⟨_, rfl, T.noth.C, .ref T.R, .ref T.R, true, rfl, rfl, rfl, B1.eN, fun u hu => hu, B1.kN, ?_⟩
        exact ⟨_, rfl, (ku rfl).1 e _ fun _ _ z => z⟩
      · exact ⟨_, rfl, rfl, (ku rfl).2 p e1 e H' b hS'⟩
    · refine if_false_of (by decide +kernel) ⟨_, rfl, x, dx, _, rfl, hx, rfl, x, es, past, ahead, rfl, hS, ha, hp, fun e => ?_, fun p e1 e H' b hS' => ?_⟩
      · refine ⟨true, B1.exN, fun _ a ha => ?_, fun z => nomatch z⟩
        refine ⟨_, rfl, T.noth.C, .ref T.R, .ref T.R, true, rfl, rfl, rfl, B1.eN, fun u hu => hu, B1.kN, ?_⟩
        exact ⟨_, rfl, (kr rfl).1 e _ fun _ _ z => z⟩
      · exact ⟨_, rfl, rfl, (kr rfl).2 p e1 e H' b hS'⟩

section
variable {X : Cx} {CX : CXT} {k : Nat} {g : Addr} {sp : Sp} {o e : Expr} {es : List Expr} {m : Str} {ta : TE} {t : TA} {pos apos : Pos} {E : L2.St → XK}
/-- o.m(e, ..), m told of its arguments as they are passed, what it may let out as the names stand -/
def tMethRS (C : Addr) (m : Str) (sp : Sp) (E : L2.St → XK) (ta : TE) (t : TA) : TE := fun σ H Q => ta σ H fun x H1 => ∃ a dx fs, x = .ref a ∧ H1 a = some (.ins C dx fs) ∧ fs.lookup m = Option.none ∧ t σ H1 fun vs H2 => sp (x :: vs) H2 Q (E σ)
theorem pe_methRS {C : Addr} {pl : Sem Bool} (he : PE X o ta) (c : Cls X.K C) (hm : Meth X.K C m g) (F : FnR X.prog X.w X.K X.mg X.base CX k g sp) (hr : Room k X.A) (hx : ∀ σ, PassesAt CX X σ (E σ)) (ha : PA X (e :: es) t)
    (hst : starEach (e :: es) X.env = (false, eval e X.env) :: starEach es X.env := by rfl) (hpl : (backTo pos (starEach es X.env)).any (·.1) = false := by rfl)
    (ht : eval (.Call (.Attribute o m apos) (e :: es) [] pos) X.env = (eval o X.env >>= fun ov => standAt apos.atName >>= fun _ => holding [ov] (getMethod ov m pl) >>= fun z => callWith pos z.1 z.2 (backTo pos (starEach (e :: es) X.env)) (backToKw pos (keywordEach [] X.env))) := by rfl) :
    PE X (.Call (.Attribute o m apos) (e :: es) [] pos) (tMethRS C m sp E ta t) := by
  refine ⟨fun pins s σ H Q I h => PySem.W.methodCall_KW (pl := pl) (thn (he.run pins s σ H _ I h) fun u s1 hu => ?_) ht⟩
  obtain ⟨x, H1, I1, rx, a, dx, fs, rfl, ea, l, q⟩ := hu
  obtain rfl : u = Value.ref a := rx
  refine getmeth_ok I1 ea c hm l (PySem.W.callWith_K (first := [.ref a]) (h₀ := X.base) I.ok.mod.kin hm.kp (thn (ha.run pos pins s1 σ H1 _ I1 q) fun us s2 z => ?_) hst hpl)
  obtain ⟨vs, H2, I2, r, q2⟩ := z
  refine ⟨I2.kIn, wpAny_call (codeAny_mono (F X.A X.stack s2 H2 (.ref a :: us) (.ref a :: vs) Q (E σ) hr I2.env0 (.cons rfl r) q2) fun r s' hq => ?_)⟩
  match r, hq with
  | .error e, hq => exact hx σ pins H2 s2 e s' I2 hq
  | .ok (.ret u), hq => exact I2.after hq
end
section
variable {X : Cx} {CX : CXT} {k : Nat} {g : Addr} {sp : Sp} {E : XK} {o : Expr} {m : Str} {ta : TE} {pos apos : Pos}
/-- o.m(), m told of its arguments as they are passed -/
theorem pe_methR0 {C : Addr} {pl : Sem Bool} (he : PE X o ta) (c : Cls X.K C) (hm : Meth X.K C m g) (F : FnR X.prog X.w X.K X.mg X.base CX k g sp) (hr : Room k X.A) (hx : Passes CX X E)
    (ht : eval (.Call (.Attribute o m apos) [] [] pos) X.env = (do
      let ov ← eval o X.env
      standAt apos.atName
      let (f, first) ← holding [ov] (getMethod ov m pl)
      callWith pos f first (backTo pos (starEach [] X.env)) (backToKw pos (keywordEach [] X.env))) := by rfl) :
    PE X (.Call (.Attribute o m apos) [] [] pos) (tMethR C m sp E ta tNil) := by
  refine ⟨fun pins s σ H Q I h => ?_⟩
  refine PySem.W.methodCall_KW (pl := pl) (thn (he.run pins s σ H _ I h) fun u s1 ⟨x, H1, I1, rx, a, dx, fs, ex, ea, l, q⟩ => ?_) ht
  subst ex
  obtain rfl : u = Value.ref a := rx
  refine getmeth_ok I1 ea c hm l ?_
  exact PySem.W.callWith_K0 (first := [.ref a]) I1.kIn hm.kp (wpAny_call (run_fnR (us := [.ref a]) (vs := [.ref a]) F hr hx I1 (.cons rfl .nil) q))
end
theorem passN0 {X : Cx} : Passes (L2N.CX X.prog X.w) X E0 := fun _ _ _ _ _ _ _ h => by
  obtain ⟨_, _, _, _, _, _, _, _, _, _, _, _, z⟩ := h
  exact z.elim
theorem rowOk_fr {T : Txt K mg} {H H' : Hp} {q r : Addr} {n : Nat} {e : Ent} (hP : Pen H q n) (f : Fr q H H') (h : RowOk T H r e) : RowOk T H' r e := by
  obtain ⟨y, h1, h2⟩ := h.at_
  obtain ⟨_, hq⟩ := hP.at
  exact ⟨⟨y, f _ _ (fun z => by rw [z, hq] at h1; cases h1) h1, h2.fr hP f⟩, h.pa, h.pr, h.nm⟩
theorem nodup_len {α : Type} [DecidableEq α] : ∀ {l m : List α}, l.Nodup → (∀ x ∈ l, x ∈ m) → l.length ≤ m.length
  | [], _, _, _ => Nat.zero_le _
  | x :: r, m, nd, h => by
    obtain ⟨n1, n2⟩ := List.nodup_cons.mp nd
    have hx := h x List.mem_cons_self
    have := nodup_len (m := m.erase x) n2 fun y hy => (List.mem_erase_of_ne (fun z => n1 (by rw [← z]; exact hy))).mpr (h y (List.mem_cons_of_mem _ hy))
    rw [List.length_erase_of_mem hx] at this
    have : 0 < m.length := List.length_pos_of_mem hx
    rw [List.length_cons]
    omega
theorem not_full {es : List Ent} {ns : List Str} (nd : (es.map (·.n)).Nodup) (h : ∀ e ∈ es, e.n ∈ ns) (l : ns.length ≤ 7) (e : Ent) : fullE es e = false := by
  have := nodup_len nd (m := ns) fun y hy => by
    obtain ⟨e, h1, rfl⟩ := List.mem_map.mp hy
    exact h e h1
  rw [List.length_map] at this
  unfold fullE
  rw [decide_eq_false (by omega), Bool.and_false]
theorem put_sub {es : List Ent} {ns : List Str} {e : Ent} (h : ∀ e ∈ es, e.n ∈ ns) (he : e.n ∈ ns) : ∀ x ∈ putE es e, x.n ∈ ns := fun x hx => by
  rcases putE_mem.mp hx with rfl | ⟨h1, _⟩
  · exact he
  · exact h x h1
theorem IsSt.drop {es es' : List Ent} {st : List Row} {n : Str} (h : IsSt es st) (hm : ∀ e, e ∈ es' ↔ e ∈ es ∧ e.n ≠ n) : IsSt es' (st.filter fun x => decide (x.1 ≠ n)) := by
  refine ⟨h.1.sublist List.filter_sublist, fun x => ?_⟩
  rw [List.mem_filter, h.2 x, List.mem_map, List.mem_map]
  constructor
  · rintro ⟨⟨e, e1, rfl⟩, e2⟩
    exact ⟨e, (hm e).mpr ⟨e1, of_decide_eq_true e2⟩, rfl⟩
  · rintro ⟨e, e1, rfl⟩
    exact ⟨⟨e, ((hm e).mp e1).1, rfl⟩, decide_eq_true ((hm e).mp e1).2⟩
theorem free_of {T : Txt K mg} {H H' : Hp} {q x l : Addr} {m : Nat} {es : List Ent} {past ahead : List (List Ent)} (b : ButS [q, x] H H') (hP : Pen H' q m) (hS : ShAt T H' x es past ahead) (h : H' l = Option.none) : H l = Option.none := by
  match e : H l with
  | Option.none => rfl
  | some o =>
    by_cases n : l ∈ [q, x]
    · simp only [List.mem_cons, List.not_mem_nil, or_false] at n
      rcases n with rfl | rfl
      · obtain ⟨_, hq⟩ := hP.at
        rw [hq] at h; cases h
      · obtain ⟨dx, d, t, tp, ta, hx, _⟩ := hS
        rw [hx] at h; cases h
    · rw [b _ _ n e] at h; cases h
theorem run_two {es : List Ent} {a b : Ent} (f1 : fullE es a = false) (f2 : fullE (putE es a) b = false) : runR 0 es [some a, some b] = .ok (putE (putE es a) b) := by
  show (if fullE es a = true then _ else (if fullE (putE es a) b = true then _ else _)) = _
  rw [if_neg (by rw [f1]; exact Bool.false_ne_true), if_neg (by rw [f2]; exact Bool.false_ne_true)]
  rfl
theorem run_three {es : List Ent} {a b : Ent} (f1 : fullE es a = false) (f2 : fullE (putE es a) b = false) : runR 0 es [some a, some b, Option.none] = .error 2 := by
  show (if fullE es a = true then _ else (if fullE (putE es a) b = true then _ else _)) = _
  rw [if_neg (by rw [f1]; exact Bool.false_ne_true), if_neg (by rw [f2]; exact Bool.false_ne_true)]
  rfl
theorem ok_inj {x y : List Ent} (h : (Except.ok x : Except Nat (List Ent)) = .ok y) : x = y := by injection h
theorem er_inj {x y : Nat} (h : (Except.error x : Except Nat (List Ent)) = .error y) : x = y := by injection h
theorem sh_mut {T : Txt K mg} {H : Hp} {x : Addr} {es : List Ent} {past ahead : List (List Ent)} (h : ShAt T H x es past ahead) : ∀ a ∈ [x], Mut T H a := fun a ha => by
  rw [List.mem_singleton.mp ha]
  obtain ⟨dx, d, t, tp, ta, hx, _⟩ := h
  exact .inr ⟨dx, _, _, _, _, hx⟩
/-- a deed that is drawn: None, or the state behind it -/
def spDeed (T : Txt K mg) : Sp := fun vs H Q _ => ∃ (q x L : Addr) (n : Nat) (ns : List Str) (es : List Ent) (past ahead : List (List Ent)), vs = [.ref q, .ref x, .ref L] ∧ Pen H q n ∧ n < 80000 ∧ ShAt T H x es past ahead ∧ past.length < 500 ∧ SqL K H L (ns.map V.str) ∧ L ≠ q ∧ 0 < ns.length ∧ ns.length ≤ 7 ∧ (∀ z ∈ ns, nameB (.str z) = true) ∧ (∀ e ∈ es, e.n ∈ ns) ∧
  (∀ H', Pen H' q (n + 20) → ShAt T H' x es past ahead → ButS [q, x] H H' → Q .non H') ∧
  (∀ (l : Addr) (st : List Row) (es' : List Ent) (H' : Hp), Pen H' q (n + 20) → ShAt T H' x es' (past ++ [es]) [] → ButS [q, x] H H' → H l = Option.none → IsSt es' st → StAt H' l st → (∀ e ∈ es', e.n ∈ ns) → Q (.ref l) H')
theorem ok_deed (HP : PrF lawFile P) (T : Txt K mg) (W : Whl T) (B : Caught T) (B1 : Caught1 T) : FnOk P w K mg base CX0 9 T.a_deed T.fd_deed ["_law_pen_here", "_law_shelf", "_law_names"] (spDeed T) := by
  refine T.F_deed.ok sc_deed (fun vs H Q E h => ?_) (fun cdv A outer s H vs Q E hr h => ?_)
  · obtain ⟨q, x, L, n, ns, es, past, ahead, rfl, _⟩ := h; rfl
  · obtain ⟨q, x, L, n, ns, es, past, ahead, rfl, hP, hn, hS, hpl, hL, nL, n0, n7, hns, hsub, kN, kS⟩ := h
    refine ⟨_, pss_cons (ps_par (i := 3) (j := 4) (by rfl) sc_deed.nd rfl rfl (by decide) rfl rfl (pa_cons (pe_call (ok_state HP T W) (hr.mono (by decide)) rfl T.m_state T.F_state.kp (b_state T) .nil pass0 (pa_cons (pv 1) (pa_nil))) (pa_cons (pe_call (ok_draw T) (hr.mono (by decide)) rfl T.m_draw T.F_draw.kp (b_draw T) .nil pass0 (pa_cons (pv 0) (pa_cons (pe_int) (pa_nil)))) (pa_nil))) (by rfl))
      (pss_cons (ps_asg (pe_tup (pa_cons (pe_call (ok_row HP T W) (hr.mono (by decide)) rfl T.m_row T.F_row.kp (b_row T) .nil pass0 (pa_cons (pv 0) (pa_cons (pv 2) (pa_nil)))) (pa_cons (pe_call (ok_row HP T W) (hr.mono (by decide)) rfl T.m_row T.F_row.kp (b_row T) .nil pass0 (pa_cons (pv 0) (pa_cons (pv 2) (pa_nil)))) (pa_nil)))) (pg_tup rfl (pgs_cons (pg_name (i := 5) sc_deed.nd rfl (Or.inr rfl)) (pgs_cons (pg_name (i := 6) sc_deed.nd rfl (Or.inl rfl)) (pgs_nil)))))
      (pss_cons (ps_if (pt_cmpR op_eq (pv 4) (pe_int) (nomark _)) (pss_cons (L2N.ps_try_as (i := 7) (c := .ref T.non.C) rfl rfl sc_deed.nd rfl rfl ⟨rfl, by decide, .inl T.non.m⟩ takes0N (fun W1 pn xe tk _ => pss_one (ps_expr (pe_methRS (pv 1) T.scls T.s_drop ((ok_Shelf_drop T).raw (b_Shelf_drop T) .nil) (hr.mono (by decide)) (fun σ => L2N.passAt tk σ) (pa_cons (pe_ix (ix_tup2 K (by rfl)) (pv 5) (pe_int) (fun _ _ => rfl)) (pa_nil))))) (fun a oe cls d pn hz hd => pss_one (ps_ret (pe_ifExp (pt_cmpR op_eq (pe_fldP2 K rfl List.mem_cons_self (L2N.Zn.zc hz) hd (pv 7)) (pe_ix (ix_tup2 K (by rfl)) (pv 5) (pe_int) (fun _ _ => rfl)) (nomark _)) (pe_non) (pv 3)))))
      (pss_one (ps_ret (pe_lc (own := [("_law_row_here", 8)]) (g := gName 8) rfl sc_deed.nd (pi_list (pv 3)) (blkOk_by (own := [("_law_row_here", 8)]) (N := ["_law_pen_here", "_law_shelf", "_law_names", "_law_state_here", "_law_way", "_law_first", "_law_last", "e", "_law_row_here"]) (sc := defScope s_deed) (by decide +kernel)) (fun _ _ _ _ _ => pg_name (i := 8) sc_deed.nd rfl (Or.inl rfl)) (fun _ _ _ _ _ => pts_one (pt_cmpR op_ne (pe_ix (ix_tup2 K (by rfl)) (pv 8) (pe_int) (fun _ _ => rfl)) (pe_ix (ix_tup2 K (by rfl)) (pv 5) (pe_int) (fun _ _ => rfl)) (nomark _))) (fun _ _ _ _ _ => pv 8))))) (pss_nil))
      (pss_cons (ps_if (pt_cmpR op_eq (pv 4) (pe_int) (nomark _)) (pss_cons (ps_expr (pe_methR (pv 1) T.scls T.s_stock (ok_Shelf_stock HP T W B) (hr.mono (by decide)) passL (pa_cons (pv 5) (pa_cons (pv 6) (pa_nil)))))
      (pss_one (ps_ret (pe_call (ok_with HP T W) (hr.mono (by decide)) rfl T.m_with T.F_with.kp (b_with T) .nil pass0 (pa_cons (pe_call (ok_with HP T W) (hr.mono (by decide)) rfl T.m_with T.F_with.kp (b_with T) .nil pass0 (pa_cons (pv 3) (pa_cons (pv 5) (pa_nil)))) (pa_cons (pv 6) (pa_nil))))))) (pss_nil))
      (pss_cons (ps_if (pt_cmpR op_eq (pv 4) (pe_int) (nomark _)) (pss_cons (ps_try_as (i := 7) (c := .ref T.badd.C) rfl rfl sc_deed.nd rfl rfl ⟨rfl, by decide, .inl T.badd.m⟩ takes0 (fun W1 pn xe tk _ => pss_one (ps_expr (pe_methRS (pv 1) T.scls T.s_stock (ok_Shelf_stock HP T W B) (hr.mono (by decide)) (fun σ => passAt tk σ) (pa_cons (pv 6) (pa_cons (pv 5) (pa_cons (pe_tup (pa_cons (pe_str) (pa_cons (pe_mkR W.X.mkr ((ok_Exact_init HP T).raw (b_Exact_init T) .nil) (hr.mono (by decide)) passL rfl T.m_Exact (pa_cons (pe_int) (pa_nil))) (pa_cons (pe_int) (pa_nil))))) (pa_nil))))))) (fun a oe cls d pn hz hd => pss_one (ps_ret (pe_ifExp (pt_cmpR op_eq (pe_fldP2 K rfl List.mem_cons_self hz hd (pv 7)) (pe_int) (nomark _)) (pe_non) (pv 3)))))
      (pss_one (ps_ret (pv 3)))) (pss_nil))
      (pss_cons (ps_if (pt_cmpR op_eq (pv 4) (pe_int) (nomark _)) (pss_cons (ps_expr (pe_methR0 (pv 1) T.scls T.s_stock (ok_Shelf_stock HP T W B) (hr.mono (by decide)) passL))
      (pss_one (ps_ret (pv 3)))) (pss_nil))
      (pss_cons (ps_asg (pe_tup (pa_cons (pe_ix (ix_tup2 K (by rfl)) (pv 5) (pe_int) (fun _ _ => rfl)) (pa_cons (pe_ix (ix_tup2 K (by rfl)) (pv 5) (pe_int) (fun _ _ => rfl)) (pa_nil)))) (pg_sub (pv 1) (pe_ix (ix_tup2 K (by rfl)) (pv 5) (pe_int) (fun _ _ => rfl)) (set_ownO (ok_Shelf_setitem HP T W) (hr.mono (by decide)) (b_Shelf_setitem T) passN0 T.nq_set T.fi_set T.fn_set)))
      (pss_one (ps_ret (pe_call (ok_with HP T W) (hr.mono (by decide)) rfl T.m_with T.F_with.kp (b_with T) .nil pass0 (pa_cons (pv 3) (pa_cons (pv 5) (pa_nil)))))))))))), ?_⟩
    refine ⟨_, rfl, x, es, past, ahead, rfl, hS, fun l st H1 s1 hl hst hSt => ?_⟩
    have hP1 := hP.same s1
    have hS1 := hS.same s1
    refine ⟨_, rfl, q, 6, n, rfl, by decide, by decide, hP1, by omega, fun way H2 w0 w1 hP2 f2 => tNil_to ⟨_, _, rfl, ?_⟩⟩
    have hL2 : SqL K H2 L (ns.map V.str) := f2.seq nL (SqL.same s1 hL)
    refine ⟨_, rfl, _, rfl, q, L, n + 1, ns, rfl, hP2, by omega, hL2, nL, n0, by omega, hns, fun r1 e1 H3 hr1 hm1 _ _ hP3 f3 => ?_⟩
    have hL3 : SqL K H3 L (ns.map V.str) := f3.seq nL hL2
    refine ⟨_, rfl, _, rfl, q, L, n + 1 + 8, ns, rfl, hP3, by omega, hL3, nL, n0, by omega, hns, fun r2 e2 H4 hr2 hm2 _ _ hP4 f4 => ?_⟩
    have hr1 := rowOk_fr hP3 f4 hr1
    have F := (f2.trans f3).trans f4
    have hS4 := ShAt.fr hP1 F hS1
    refine tNil_to ⟨(by show 2 ≤ sizeLine; decide), fun tp htp => ?_⟩
    have sT := same_new (o := .tup [.ref r1, .ref r2]) htp
    refine ⟨tp, _, rfl, SqT.of upd_same, rfl, _, _, rfl, _, _, rfl, rfl, ?_⟩
    have hP5 := hP4.same sT
    have hS5 := hS4.same sT
    have hr1 := hr1.same sT
    have hr2 := hr2.same sT
    have nlq : l ≠ q := (hP.neq hl)
    have lst4 : ∀ {H4 : Hp}, Fr q H1 H4 → StAt H4 l st := fun F => by
      obtain ⟨rs, h1, h2, h3⟩ := hSt
      obtain ⟨_, hq⟩ := hP1.at
      exact ⟨rs, F _ _ nlq h1, fun r hr => F _ _ (fun z => by have y : H1 r.1 = _ := h2 r hr; rw [z, hq] at y; cases y) (h2 r hr), h3⟩
    have hSt5 := (lst4 F).same sT
    have b5 : ButS [q, x] H (upd H4 tp (.tup [.ref r1, .ref r2])) := ((ButS.of s1).trans (ButS.fr (by simp) F)).trans (ButS.of sT)
    obtain ⟨dx, d, t, tq, ta, hx5, hI5⟩ := hS5.fld
    obtain ⟨kvs, _, _, hnd, hle⟩ := hI5.di
    clear lst4 hS4 hS1 hSt F f2 f3 f4 hP2 hP3 hP4 hL2 hL3
    generalize upd H4 tp (.tup [.ref r1, .ref r2]) = G at hP5 hS5 hr1 hr2 hSt5 b5 hx5 hI5 ⊢
    obtain ⟨y1, hy1, wy1⟩ := id hr1.at_
    obtain ⟨y2, hy2, wy2⟩ := id hr2.at_
    have nlx : l ≠ x := fun z => by
      obtain ⟨rs, h1, _⟩ := hSt5
      rw [z, hx5] at h1; cases h1
    have len8 : ∀ {e : Ent} {r : Addr}, RowOk T G r e → e.n.length ≤ 8 := fun h => by have := (name_len h.nm).2; omega
    have stx : ∀ {G' : Hp}, But x G G' → StAt G' l st := fun b => hSt5.stay (sh_mut hS5) (ButS.but (by simp) b) (by simpa using nlx)
    have rox : ∀ {G' : Hp} {r : Addr} {e : Ent}, But x G G' → RowOk T G r e → RowOk T G' r e := fun b h => by
      obtain ⟨y, h1, h2⟩ := h.at_
      exact ⟨⟨y, tup_stay (sh_mut hS5) (ButS.but (S := [x]) (by simp) b) h1, h2.stay (sh_mut hS5) (ButS.but (S := [x]) (by simp) b)⟩, h.pa, h.pr, h.nm⟩
    have bx : ∀ {G' : Hp}, But x G G' → ButS [q, x] H G' := fun b => b5.trans (ButS.but (by simp) b)
    refine ⟨_, rfl, rfl, _, rfl, ?_⟩
    refine ite2 (fun hc => ?_) (fun hc => ?_)
    · clear hc
      refine ⟨_, rfl, x, dx, _, rfl, hx5, rfl, _, rfl, r1, _, 0, _, rfl, rfl, SqT.of hy1, rfl, tNil_to ⟨x, e1.n, es, past, ahead, rfl, hS5, len8 hr1, by omega, fun hh => ?_, fun hh es' H' b hm hS' => ?_⟩⟩
      · intro dx6 H6 s6 hn6 h6
        refine ⟨true, B1.exO, fun _ a ha => ?_, fun z => nomatch z⟩
        refine ⟨_, rfl, T.non.C, dx6, _, _, rfl, rfl, rfl, h6, B1.eO, T.non.no, rfl, ?_⟩
        refine ⟨_, rfl, r1, _, 0, _, rfl, rfl, SqT.of (s6 _ _ hy1), rfl, ?_⟩
        refine ⟨rfl, _, rfl, if_true_of (by rw [decide_eq_true rfl]) ?_⟩
        exact kN H6 ((hP5.same s6).mono (by omega)) (hS5.same s6) (b5.trans (ButS.of s6))
      · obtain ⟨rs, h1, h2, h3⟩ := stx b
        have hy1' := (rox b hr1).at_
        obtain ⟨y1', hy1', _⟩ := hy1'
        have lrs : rs.length ≤ 8 := by
          have z := congrArg List.length h3
          rw [List.length_map, hst.len hnd] at z
          omega
        refine ⟨_, rfl, l, rfl, ⟨_, SqL.of h1⟩, fun D hD => ?_⟩
        refine lc_list (K := K) (a := l) (xs := rs.map fun r => V.ref r.1) (fun i H2 => Same H' H2 ∧ H2 D = some (.lst (((rs.take i).filter fun r => decide (r.2.1 ≠ e1.n)).map fun r => V.ref r.1))) ⟨same_new hD, upd_same⟩ (fun i H2 _ h => SqL.of (h.1 _ _ h1)) ?_ ?_
        · rintro i v H2 hv ⟨s7, eD⟩
          obtain ⟨ro, hro, rfl⟩ : ∃ ro, rs[i]? = some ro ∧ v = .ref ro.1 := by
            rw [List.getElem?_map] at hv
            cases q : rs[i]? with
            | none => rw [q] at hv; cases hv
            | some ro => rw [q] at hv; exact ⟨ro, rfl, (Option.some.inj hv).symm⟩
          have hra := s7 _ _ (h2 ro (List.mem_of_getElem? hro))
          refine ⟨rfl, ?_⟩
          refine ⟨_, rfl, ro.1, _, 0, _, rfl, rfl, SqT.of hra, rfl, _, rfl, r1, _, 0, _, rfl, rfl, SqT.of (s7 _ _ hy1'), rfl, rfl, _, rfl, ?_⟩
          have ht : rs.take (i + 1) = rs.take i ++ [ro] := NM.take_snoc hro
          refine ite2 (fun hc => ?_) (fun hc => ?_)
          · have hne : ro.2.1 ≠ e1.n := fun z => by
              rw [z, decide_eq_true rfl] at hc
              cases hc
            have lacc : ((rs.take i).filter fun r => decide (r.2.1 ≠ e1.n)).length ≤ 8 := Nat.le_trans (List.length_filter_le _ _) (by rw [List.length_take]; omega)
            refine ⟨_, rfl, _, eD, by rw [List.length_map, sizeLine_eq]; omega, same_upN s7 hD, ?_⟩
            rw [upd_same, ht, List.filter_append, List.map_append, List.filter_cons_of_pos (p := fun r : RowT => decide (r.2.1 ≠ e1.n)) (decide_eq_true hne)]
            rfl
          · refine ⟨s7, ?_⟩
            have he : ro.2.1 = e1.n := by
              by_cases z : ro.2.1 = e1.n
              · exact z
              · exact absurd (by rw [decide_eq_false fun q => z (by injection q)]; rfl) hc
            rw [ht, List.filter_append, List.filter_cons_of_neg (by rw [he]; simp)]
            rw [show ([] : List RowT).filter (fun r => decide (r.2.1 ≠ e1.n)) = [] from rfl, List.append_nil]
            exact eD
        · rintro H2 ⟨s7, eD⟩
          rw [List.length_map, List.take_length] at eD
          refine kS D _ es' H2 (((hP5.but hx5 b).same s7).mono (by omega)) (hS'.same s7) ((bx b).trans (ButS.of s7)) (free_of (bx b) (hP5.but hx5 b) hS' hD) (hst.drop hm) ⟨rs.filter fun r => decide (r.2.1 ≠ e1.n), eD, fun r hr => s7 _ _ (h2 r (List.mem_filter.mp hr).1), ?_⟩ (fun e he => hsub e ((hm e).mp he).1)
          rw [← h3, List.filter_map]
          rfl
    have nf1 := not_full hnd hsub n7 e1
    have nf2 := not_full hnd hsub n7 e2
    have nd1 := putE_nodup (e := e1) hnd
    have nd2 := putE_nodup (e := e2) hnd
    have sub1 := put_sub hsub hm1
    have sub2 := put_sub hsub hm2
    have nf12 := not_full nd1 sub1 n7 e2
    have nf21 := not_full nd2 sub2 n7 e1
    have le1 : (putE es e1).length ≤ 8 := by
      have := nodup_len nd1 (m := ns) fun y hy => by
        obtain ⟨e, h1, rfl⟩ := List.mem_map.mp hy
        exact sub1 e h1
      rw [List.length_map] at this
      omega
    refine ⟨_, rfl, rfl, _, rfl, ?_⟩
    refine ite2 (fun hc => ?_) (fun hc => ?_)
    · refine ⟨_, rfl, x, dx, _, rfl, hx5, rfl, _, rfl, _, rfl, tNil_to ⟨_, _, rfl, (by show 2 ≤ sizeLine; decide), x, es, past, ahead, [some e1, some e2], rfl, hS5, by omega, .cons hr1.row (.cons hr2.row .nil), fun i h => ?_, fun es' h H' b hS' => ?_⟩⟩
      · have z := h.symm.trans (run_two nf1 nf12)
        cases z
      obtain rfl := ok_inj (h.symm.trans (run_two nf1 nf12))
      refine ⟨_, rfl, _, rfl, l, r1, st, es, e1, rfl, stx b, hst, hle, hnd, rox b hr1, fun l1 st1 H7 s7 hl1 hst1 hSt1 => ?_⟩
      refine ⟨_, rfl, l1, r2, st1, putE es e1, e2, rfl, hSt1, hst1, le1, nd1, (rox b hr2).same s7, fun l2 st2 H8 s8 hl2 hst2 hSt2 => ?_⟩
      exact kS l2 st2 _ H8 (((hP5.but hx5 b).same (s7.trans s8)).mono (by omega)) (hS'.same (s7.trans s8)) ((bx b).trans (ButS.of (s7.trans s8))) (free_of (bx b) (hP5.but hx5 b) hS' (none_up s7 hl2)) hst2 hSt2 (put_sub sub1 hm2)
    refine ⟨_, rfl, rfl, _, rfl, ?_⟩
    refine ite2 (fun hc => ?_) (fun hc => ?_)
    · refine ⟨_, rfl, x, dx, _, rfl, hx5, rfl, _, rfl, _, rfl, ?_⟩
      intro y dy hy hdy _
      refine okX T W hy hdy (p := 7) ⟨by decide, by decide⟩ fun G1 s1 w1 => ⟨rfl, ?_⟩
      refine ⟨(by show 3 ≤ sizeLine; decide), fun r3 hr3 => ?_⟩
      have s2 := same_new (o := .tup [.str "", .ref y, .int 0]) hr3
      have S := s1.trans s2
      have hS6 := hS5.same S
      refine tNil_to ⟨_, _, rfl, (by show 3 ≤ sizeLine; decide), x, es, past, ahead, [some e2, some e1, Option.none], rfl, hS6, by omega, .cons (hr2.row.same S) (.cons (hr1.row.same S) (.cons (.three upd_same (.name (.str _) (fun z e => by cases e; decide +kernel) (by decide +kernel))) .nil)), fun i h => ?_, fun es' h H' b hS' => ?_⟩
      rotate_left
      · have z := h.symm.trans (run_three nf2 nf21)
        cases z
      obtain rfl := er_inj (h.symm.trans (run_three nf2 nf21))
      intro dx6 H6 s6 hn6 h6
      refine ⟨true, B.exD, fun _ a ha => ?_, fun z => nomatch z⟩
      refine ⟨_, rfl, T.badd.C, dx6, _, _, rfl, rfl, rfl, h6, B.eD, T.badd.no, rfl, rfl, _, rfl, if_true_of (by rfl) ?_⟩
      exact kN H6 ((hP5.same (S.trans s6)).mono (by omega)) (hS6.same s6) (b5.trans (ButS.of (S.trans s6)))
    refine ⟨_, rfl, rfl, _, rfl, ?_⟩
    refine ite2 (fun hc => ?_) (fun hc => ?_)
    · refine ⟨_, rfl, x, dx, _, rfl, hx5, rfl, tNil_to ⟨_, _, rfl, (by show 0 ≤ sizeLine; decide), x, es, past, ahead, [], rfl, hS5, by omega, .nil, fun i h => ?_, fun es' h H' b hS' => ?_⟩⟩
      · cases h
      obtain rfl := ok_inj h
      exact ⟨_, rfl, kS l st _ H' ((hP5.but hx5 b).mono (by omega)) hS' (bx b) hl hst (stx b) hsub⟩
    · refine ⟨_, rfl, r1, _, 1, _, rfl, rfl, SqT.of hy1, rfl, _, rfl, r1, _, 2, _, rfl, rfl, SqT.of hy1, rfl, tNil_to ⟨(by show 2 ≤ sizeLine; decide), fun tt htt => ?_⟩⟩
      have sT := same_new (o := .tup [.ref y1, .int e1.pr]) htt
      refine ⟨_, rfl, _, rfl, r1, _, 0, _, rfl, rfl, SqT.of (sT _ _ hy1), rfl, x, dx, _, rfl, sT _ _ hx5, x, tt, y1, e1, es, past, ahead, rfl, hS5.same sT, by omega, upd_same, wy1.same sT, hr1.pa, hr1.pr, hr1.nm, nf1, fun H' b' hS' => ?_⟩
      have b := (But.of (x := x) sT).trans b'
      refine ⟨_, rfl, _, rfl, l, r1, st, es, e1, rfl, stx b, hst, hle, hnd, rox b hr1, fun l1 st1 H7 s7 hl1 hst1 hSt1 => ?_⟩
      exact kS l1 st1 _ H7 (((hP5.but hx5 b).same s7).mono (by omega)) (hS'.same s7) ((bx b).trans (ButS.of s7)) (free_of (bx b) (hP5.but hx5 b) hS' hl1) hst1 hSt1 sub1

section
variable {X : Cx} {o lo : Expr} {to tl : TE} {pos p2 : Pos}
def gTailS (to tl : TE) : TG := fun v σ H Q => to σ H fun o H1 => tl σ H1 fun i H2 => ∃ (l b : Addr) (xs ys : List V) (a : Nat), o = .ref l ∧ v = .ref b ∧ i = .int (a : Nat) ∧ H2 l = some (.lst xs) ∧ H2 b = some (.lst ys) ∧ l ≠ b ∧ a ≤ xs.length ∧ xs.length + ys.length ≤ sizeLine ∧ Q σ (upd H2 l (.lst (xs.take a ++ ys)))
theorem pg_tailS (ho : PE X o to) (hl : PE X lo tl)
    (ha : ∀ v, assign (.Subscript o (.Slice (some lo) Option.none Option.none p2) pos) X.env v = (do
      let ov ← holding [v] (eval o X.env)
      let iv ← holding [v, ov] (eval (.Slice (some lo) Option.none Option.none p2) X.env)
      standAt pos
      holding [v, ov, iv] (setItem ov iv v)
      release [iv, v, ov] []) := by intro _; rfl) : PG X (.Subscript o (.Slice (some lo) Option.none Option.none p2) pos) (gTailS to tl) := by
  refine ⟨fun pins s σ H v u Q I r h => ?_⟩
  rw [ha]
  refine wpAny_bind (wpAny_holding (thn (ho.run pins s σ H _ I h) fun ov s1 ⟨x, H1, I1, r1, q1⟩ => ?_))
  refine wpAny_bind (wpAny_holding (wpAny_Slice (thn (hl.run pins s1 σ H1 _ I1 q1) fun vl s2 ⟨y, H2, I2, r2, l, b, xs, ys, a, ex, ev, ey, hL, hB, hne, hal, hz, q⟩ => ?_)))
  rw [evalPart_none]
  refine wpAny_pure (wpAny_pure ?_)
  subst ex ev ey
  obtain ⟨tt, rfl⟩ := r2
  obtain rfl : ov = Value.ref l := r1
  obtain rfl : u = Value.ref b := r
  have I4 : Inv X pins σ H2 { s2 with heap := s2.heap.push { cls := .type "slice", data := .fields #[.int (a : Nat) tt, .none, .none] } } := I2.kept (t' := s2.toks) fun _ _ q => Heap.get?_push_of_some _ q
  refine wpAny_bind (wpAny_standAt (wpAny_bind (wpAny_holding ?_)))
  obtain ⟨_, its, n, r3, hl3, e3⟩ := I4.lstM hL
  obtain ⟨_, its2, n2, r4, hl4, e4⟩ := I4.lstM hB
  refine setItem_tail (a := a) e3 e4 hne (Heap.IsSliceOf.new ..) (.int _ _) (by rw [List.size_toArray]; omega) (by rw [List.size_toArray, List.size_toArray]; omega) ?_
  refine wpAny_release ⟨σ, _, I4.lset (its' := its.take a ++ its2) (t' := s2.toks) hL e3 ?_ (Vals.append (r3.take _) r4) ?_, q⟩
  · apply Array.toList_inj.mp
    simp
  · rw [List.length_append, List.length_take]
    omega
end

theorem led_ne {T : Txt K mg} {S : List Addr} {ns : List Str} {H : Hp} {x Ls : Addr} {hist : List (List Ent)} {i : Nat} (L : LedAt T S ns H x Ls hist i) : Ls ≠ x := fun z => by
  obtain ⟨es, _, dx, d, t, tp, ta, hx, _⟩ := L.cur
  obtain ⟨ls, l1, _⟩ := L.sts
  rw [z, hx] at l1; cases l1
theorem led_set {T : Txt K mg} {S : List Addr} {ns : List Str} {H H' : Hp} {x Ls : Addr} {hist : List (List Ent)} {i j : Nat} {es : List Ent} (L : LedAt T S ns H x Ls hist i) (b : But x H H') (he : hist[j]? = some es) (hS : ShAt T H' x es (hist.take j) (hist.drop (j + 1)).reverse) : LedAt T S ns H' x Ls hist j := by
  obtain ⟨es0, e0, hS0⟩ := L.cur
  obtain ⟨ls, l1, l2⟩ := L.sts
  exact ⟨L.xS, L.lS, ⟨es, he, hS⟩, ⟨ls, b _ _ (led_ne L) l1, sts_stay (S' := [x]) (fun a ha => by rw [List.mem_singleton.mp ha]; exact L.xS) (sh_mut hS0) (ButS.but (by simp) b) l2⟩, L.sub⟩
theorem led_back {T : Txt K mg} {S : List Addr} {ns : List Str} {H H' : Hp} {x Ls : Addr} {hist : List (List Ent)} {i : Nat} {es e1 : List Ent} {p : List (List Ent)} (L : LedAt T S ns H x Ls hist i) (hi : hist[i]? = some es) (e : hist.take i = p ++ [e1]) (b : But x H H') (hS : ShAt T H' x e1 p ((hist.drop (i + 1)).reverse ++ [es])) : LedAt T S ns H' x Ls hist (i - 1) ∧ 0 < i := by
  have hl := (List.getElem?_eq_some_iff.mp hi).1
  have hp : i = p.length + 1 := by
    have := congrArg List.length e
    rw [List.length_take, List.length_append, List.length_singleton] at this
    omega
  have ht : hist.take (i - 1) = p := by
    have := congrArg (List.take (i - 1)) e
    rw [List.take_take, Nat.min_eq_left (by omega)] at this
    rw [this, hp, Nat.add_sub_cancel, List.take_left']
    rfl
  have hg : hist[i - 1]? = some e1 := by
    have z : (hist.take i)[i - 1]? = some e1 := by rw [e, hp, Nat.add_sub_cancel, List.getElem?_concat_length]
    rw [List.getElem?_take_of_lt (by omega)] at z
    exact z
  have hd : hist.drop (i - 1 + 1) = es :: hist.drop (i + 1) := by
    rw [show i - 1 + 1 = i by omega, List.drop_eq_getElem_cons hl]
    rw [List.getElem?_eq_getElem hl] at hi
    rw [Option.some.inj hi]
  refine ⟨led_set L b hg ?_, by omega⟩
  rw [ht, hd, List.reverse_cons]
  exact hS
theorem led_forth {T : Txt K mg} {S : List Addr} {ns : List Str} {H H' : Hp} {x Ls : Addr} {hist : List (List Ent)} {i : Nat} {es e1 : List Ent} {p : List (List Ent)} (L : LedAt T S ns H x Ls hist i) (hi : hist[i]? = some es) (e : (hist.drop (i + 1)).reverse = p ++ [e1]) (b : But x H H') (hS : ShAt T H' x e1 (hist.take i ++ [es]) p) : LedAt T S ns H' x Ls hist (i + 1) ∧ i + 1 < hist.length := by
  have e2 : hist.drop (i + 1) = e1 :: p.reverse := by
    have := congrArg List.reverse e
    rw [List.reverse_reverse, List.reverse_append] at this
    exact this
  have hl : i + 1 < hist.length := by
    have := congrArg List.length e2
    rw [List.length_drop, List.length_cons] at this
    omega
  have hd := List.drop_eq_getElem_cons hl
  rw [e2] at hd
  injection hd with h1 h2
  have hg : hist[i + 1]? = some e1 := by rw [List.getElem?_eq_getElem hl, h1]
  refine ⟨led_set L b hg ?_, hl⟩
  rw [← h2, List.reverse_reverse, List.take_add_one, hi]
  exact hS
theorem refs_inj : ∀ {a b : List Addr}, a.map V.ref = b.map V.ref → a = b
  | [], [], _ => rfl
  | [], _ :: _, h => by cases h
  | _ :: _, [], h => by cases h
  | x :: a, y :: b, h => by
    rw [List.map_cons, List.map_cons] at h
    injection h with h1 h2
    injection h1 with h1
    rw [h1, refs_inj h2]
theorem led_new {T : Txt K mg} {S : List Addr} {ns : List Str} {H H' : Hp} {x Ls l' : Addr} {hist : List (List Ent)} {i : Nat} {es es' : List Ent} {ls : List Addr} {S' : List Addr} (L : LedAt T S ns H x Ls hist i) (hi : hist[i]? = some es) (hl : H Ls = some (.lst (ls.map V.ref))) (h : ∀ a ∈ S', a ∈ S) (hm : ∀ a ∈ S', Mut T H a) (b : ButS S' H H') (hLs : Ls ∉ S') (hS : ShAt T H' x es' (hist.take i ++ [es]) []) (nl : l' ∉ S) {st : List Row} (hst : IsSt es' st) (hSt : StAt H' l' st) (hsub : ∀ e ∈ es', e.n ∈ ns) :
    LedAt T S ns (upd H' Ls (.lst ((ls.map V.ref).take (i + 1) ++ [V.ref l']))) x Ls (hist.take (i + 1) ++ [es']) (i + 1) ∧ H' Ls = some (.lst (ls.map V.ref)) ∧ ls.length = hist.length := by
  obtain ⟨ls0, l1, l2⟩ := L.sts
  obtain rfl : ls0 = ls := by
    rw [hl] at l1
    have z := Option.some.inj l1
    injection z with z
    exact (refs_inj z).symm
  have hln := (List.getElem?_eq_some_iff.mp hi).1
  have ll : ls0.length = hist.length := paired_len l2
  have l2' := sts_stay h hm b l2
  have hL' := b _ _ hLs hl
  have mL : ∀ a ∈ [Ls], Mut T H' a := fun a ha => by rw [List.mem_singleton.mp ha]; exact .inl ⟨_, hL'⟩
  have bL : ButS [Ls] H' (upd H' Ls (.lst ((ls0.map V.ref).take (i + 1) ++ [V.ref l']))) := fun a o n e => by
    rw [upd_ne (by simpa using n)]; exact e
  have sL : ∀ a ∈ [Ls], a ∈ S := fun a ha => by rw [List.mem_singleton.mp ha]; exact L.lS
  have nx : x ≠ Ls := fun z => by
    obtain ⟨dx, d, t, tp, ta, hx, _⟩ := hS
    rw [z, hL'] at hx; cases hx
  refine ⟨⟨L.xS, L.lS, ⟨es', ?_, ?_⟩, ⟨ls0.take (i + 1) ++ [l'], ?_, ?_⟩, fun es0 h0 => ?_⟩, hL', ll⟩
  · have y : (hist.take (i + 1) ++ [es'])[(hist.take (i + 1)).length]? = some es' := by rw [List.getElem?_concat_length]
    rw [show (hist.take (i + 1)).length = i + 1 by rw [List.length_take]; omega] at y
    exact y
  · have h1 : (hist.take (i + 1) ++ [es']).take (i + 1) = hist.take i ++ [es] := by
      rw [List.take_left' (by rw [List.length_take]; omega), List.take_add_one, hi]
      rfl
    have h2 : (hist.take (i + 1) ++ [es']).drop (i + 1 + 1) = [] := List.drop_eq_nil_of_le (by rw [List.length_append, List.length_take, List.length_singleton]; omega)
    rw [h1, h2]
    exact hS.stay mL bL (by simpa using nx)
  · rw [upd_same, List.map_append, List.map_take]
    rfl
  · have tk : ∀ {ls : List Addr} {hs : List (List Ent)} {H : Hp} (k : Nat), PySem.Paired (StOf S H) ls hs → PySem.Paired (StOf S H) (ls.take k) (hs.take k) := by
      intro ls hs H k h
      induction h generalizing k with
      | nil => rw [List.take_nil, List.take_nil]; exact .nil
      | cons a t ih =>
        cases k with
        | zero => exact .nil
        | succ k => exact .cons a (ih k)
    exact sts_stay sL mL bL (paired_snoc (tk (i + 1) l2') ⟨nl, st, hSt, hst⟩)
  · rcases List.mem_append.mp h0 with h0 | h0
    · exact L.sub es0 (List.mem_of_mem_take h0)
    · rw [List.mem_singleton.mp h0]
      exact hsub
theorem Pen.updR {H : Hp} {q Ls a : Addr} {n : Nat} {r : List V} {o : HO} (h : Pen H q n) (hL : H Ls = some (.lst (V.ref a :: r))) (nq : Ls ≠ q) : Pen (upd H Ls o) q n := by
  obtain ⟨c, ns, i, g, p1, p2, p3⟩ := h
  refine ⟨c, ns, i, g, by rw [upd_ne (Ne.symm nq)]; exact p1, ?_, p3⟩
  rw [upd_ne]
  · exact p2
  · rintro rfl
    rw [hL] at p2
    have z := Option.some.inj p2
    injection z with z
    cases ns with
    | nil => cases z
    | cons _ _ => injection z with z1 z2; cases z1
/-- some steps and deeds that are drawn; where the shelf stands then -/
def spLed (T : Txt K mg) : Sp := fun vs H Q _ => ∃ (q x L Ls : Addr) (S : List Addr) (n i : Nat) (ns : List Str) (hist : List (List Ent)), vs = [.ref q, .ref x, .ref L, .ref Ls, .int (i : Nat)] ∧ Pen H q n ∧ n < 50000 ∧ LedAt T S ns H x Ls hist i ∧ hist.length ≤ 150 ∧ SqL K H L (ns.map V.str) ∧ H L = some (.lst (ns.map V.str)) ∧ L ≠ q ∧ L ≠ Ls ∧ q ≠ Ls ∧ q ∈ S ∧ 0 < ns.length ∧ ns.length ≤ 7 ∧ (∀ z ∈ ns, nameB (.str z) = true) ∧ (∀ a ∈ S, ∃ o, H a = some o) ∧
  ∀ (H' : Hp) (hist' : List (List Ent)) (i' : Nat), Pen H' q (n + 1000) → LedAt T S ns H' x Ls hist' i' → hist'.length ≤ hist.length + 16 → hist'[0]? = hist[0]? → ButS [q, x, Ls] H H' → (∀ a ∈ S, ∃ o, H' a = some o) → Q (.int (i' : Nat)) H'
theorem ok_led (HP : PrF lawFile P) (T : Txt K mg) (W : Whl T) (B : Caught T) (B1 : Caught1 T) : FnG P w K mg base CX0 11 T.a_led (spLed T) := by
  refine FnG.mk0 T.F_led sc_led (b_led T) (fun vs H Q E h => ?_) (fun cdv A outer s H vs Q E gu hr h => ?_)
  · obtain ⟨q, x, L, Ls, S, n, i, ns, hist, rfl, _⟩ := h; rfl
  · obtain ⟨q, x, L, Ls, S, n, i, ns, hist, rfl, hP, hn, hLed, hlen, _, hL, nLq, nLs, nqs, qS, n0, n7, hns, hal, k⟩ := h
    refine ⟨_, pss_cons (ps_for PassesOwn.never rfl (pi_range1 (by rfl) T.n_range (pa_cons (pe_op op_add (pe_int) (pe_call (ok_draw T) (hr.mono (by decide)) rfl T.m_draw T.F_draw.kp (b_draw T) .nil pass0 (pa_cons (pv 0) (pa_cons (pe_int) (pa_nil))))) (pa_nil))) (pg_name (i := 5) sc_led.nd rfl (Or.inl rfl)) (pss_cons (ps_set (i := 6) sc_led.nd rfl (Or.inl rfl) (pe_call (ok_draw T) (hr.mono (by decide)) rfl T.m_draw T.F_draw.kp (b_draw T) .nil pass0 (pa_cons (pv 0) (pa_cons (pe_int) (pa_nil)))))
      (C8.pss_cut (ps_if (pt_cmpR op_lt (pv 6) (pe_int) (nomark _)) (pss_cons (ps_asg (pe_ifExp (pt_cmpR op_eq (pv 6) (pe_int) (nomark _)) (pe_tup (pa_cons (pe_str) (pa_cons (pe_int) (pa_nil)))) (pe_tup (pa_cons (pe_str) (pa_cons (pe_op op_sub (pe_callB call_len_seq (by rfl) T.n_len (by decide +kernel) (pa_cons (pv 3) (pa_nil))) (pe_int)) (pa_nil))))) (pg_tup rfl (pgs_cons (pg_name (i := 7) sc_led.nd rfl (Or.inl rfl)) (pgs_cons (pg_name (i := 8) sc_led.nd rfl (Or.inl rfl)) (pgs_nil)))))
      (pss_cons (ps_if (pt_cmpR op_ne (pe_call (ok_step T B1) (hr.mono (by decide)) rfl T.m_step T.F_step.kp (b_step T) .nil pass0 (pa_cons (pv 1) (pa_cons (pv 7) (pa_nil)))) (pe_cmpR op_ne (pv 4) (pv 8) (nomark _)) (nomark _)) (pss_one (ps_ret (pe_non))) (pss_nil))
      (pss_one (ps_set (i := 4) sc_led.nd rfl (Or.inl rfl) (pe_op op_add (pv 4) (pe_ifExp (pt_cmpR op_eq (pv 4) (pv 8) (nomark _)) (pe_int) (pe_ifExp (pt_cmpR op_eq (pv 6) (pe_int) (nomark _)) (pe_un un_neg (pe_int)) (pe_int)))))))) (pss_cons (ps_set (i := 9) sc_led.nd rfl (Or.inl rfl) (pe_call (ok_deed HP T W B B1) (hr.mono (by decide)) rfl T.m_deed T.F_deed.kp (b_deed T) .nil pass0 (pa_cons (pv 0) (pa_cons (pv 1) (pa_cons (pv 2) (pa_nil))))))
      (pss_one (ps_if (pt_cmpR op_notN (pv 9) (pe_non) (nomark _)) (pss_cons (ps_asg (pe_lst (pa_cons (pv 9) (pa_nil))) (pg_tailS (pv 3) (pe_op op_add (pv 4) (pe_int))))
      (pss_one (ps_set (i := 4) sc_led.nd rfl (Or.inl rfl) (pe_op op_add (pv 4) (pe_int))))) (pss_nil)))))
      (pss_one (ps_if (pt_not (pt_val (pe_callG gu (ok_stands HP T W) (hr.mono (by decide)) T.F_stands.kp rfl T.m_stands pass0 (pa_cons (pv 1) (pa_cons (pv 3) (pa_cons (pv 4) (pa_nil))))))) (pss_one (ps_ret (pe_non))) (pss_nil))))))
      (pss_one (ps_ret (pv 4))), ?_⟩
    refine ⟨_, rfl, q, 14, n, rfl, by decide, by decide, hP, by omega, fun m H1 m0 m1 hP1 f1 => ⟨_, _, rfl, rfl, ?_⟩⟩
    obtain ⟨es0, ec0, hSc0⟩ := hLed.cur
    obtain ⟨ls0, lc0, pc0⟩ := hLed.sts
    have xS := hLed.xS
    have lS := hLed.lS
    have qM : ∀ a ∈ [q], Mut T H a := fun a ha => by
      rw [List.mem_singleton.mp ha]
      obtain ⟨_, hq⟩ := hP.at
      exact .inl ⟨_, hq⟩
    have xq : x ≠ q := fun z => by
      obtain ⟨_, hq⟩ := hP.at
      obtain ⟨dx, d, t, tp, ta, hx, _⟩ := hSc0
      rw [z, hq] at hx; cases hx
    have Lx : L ≠ x := fun z => by
      obtain ⟨dx, d, t, tp, ta, hx, _⟩ := hSc0
      rw [z, hx] at hL; cases hL
    have Lno : L ∉ [q, x, Ls] := by simp only [List.mem_cons, List.not_mem_nil, or_false]; exact fun z => by rcases z with z | z | z; exact nLq z; exact Lx z; exact nLs z
    have Lsx := led_ne hLed
    have alive : ∀ {H1 H2 : Hp} {m : Nat} {hist2 : List (List Ent)} {i2 : Nat}, ButS [q, x, Ls] H1 H2 → Pen H2 q m → LedAt T S ns H2 x Ls hist2 i2 → (∀ a ∈ S, ∃ o, H1 a = some o) → ∀ a ∈ S, ∃ o, H2 a = some o := fun {H1 H2 m hist2 i2} b hP hL h a ha => by
      by_cases n : a ∈ [q, x, Ls]
      · simp only [List.mem_cons, List.not_mem_nil, or_false] at n
        rcases n with rfl | rfl | rfl
        · obtain ⟨_, hq⟩ := hP.at
          exact ⟨_, hq⟩
        · obtain ⟨es, _, dx, d, t, tp, ta, hx, _⟩ := hL.cur
          exact ⟨_, hx⟩
        · obtain ⟨ls, l1, _⟩ := hL.sts
          exact ⟨_, l1⟩
      · obtain ⟨o, e⟩ := h a ha
        exact ⟨o, b _ _ n e⟩
    have hL1 : LedAt T S ns H1 x Ls hist i := hLed.stay (S' := [q]) (fun a ha => by rw [List.mem_singleton.mp ha]; exact qS) qM (ButS.fr (by simp) f1) (by simpa using xq) (by simpa using fun z => nqs z.symm)
    refine ⟨3 + m, rfl, by omega, by omega, for_range (n := (3 + m).toNat) (fun j σ H' => ∃ (v5 v6 v7 v8 v9 : Option V) (hist' : List (List Ent)) (i' : Nat), σ = [some (.ref q), some (.ref x), some (.ref L), some (.ref Ls), some (.int (i' : Nat)), v5, v6, v7, v8, v9] ∧ Pen H' q (n + 1 + 30 * j) ∧ LedAt T S ns H' x Ls hist' i' ∧ hist'.length ≤ hist.length + j ∧ hist'[0]? = hist[0]? ∧ ButS [q, x, Ls] H H' ∧ (∀ a ∈ S, ∃ o, H' a = some o))
      ⟨_, _, _, _, _, hist, i, rfl, hP1, hL1, Nat.le_refl _, rfl, ButS.fr (by simp) f1, alive (ButS.fr (by simp) f1) hP1 hL1 hal⟩ ?_ ?_⟩
    · rintro j σ H2 hj ⟨v5, v6, v7, v8, v9, hist', i', rfl, hP2, hL2, hl2, hz2, b2, al2⟩
      have hj : j < (3 + m).toNat := hj
      refine ⟨_, rfl, q, 5, n + 1 + 30 * j, rfl, by decide, by decide, hP2, by omega, fun way H3 w0 w1 hP3 f3 => ?_⟩
      have qM2 : ∀ a ∈ [q], Mut T H2 a := fun a ha => by
        rw [List.mem_singleton.mp ha]
        obtain ⟨_, hq⟩ := hP2.at
        exact .inl ⟨_, hq⟩
      have hL3 : LedAt T S ns H3 x Ls hist' i' := hL2.stay (S' := [q]) (fun a ha => by rw [List.mem_singleton.mp ha]; exact qS) qM2 (ButS.fr (by simp) f3) (by simpa using xq) (by simpa using fun z => nqs z.symm)
      have b3 : ButS [q, x, Ls] H H3 := b2.trans (ButS.fr (by simp) f3)
      have al3 := alive (ButS.fr (by simp) f3) hP3 hL3 al2
      refine ⟨fun σ H' => ∃ (v5 v6 v7 v8 v9 : Option V) (hist2 : List (List Ent)) (i2 : Nat), σ = [some (.ref q), some (.ref x), some (.ref L), some (.ref Ls), some (.int (i2 : Nat)), v5, v6, v7, v8, v9] ∧ Pen H' q (n + 1 + 30 * j + 25) ∧ LedAt T S ns H' x Ls hist2 i2 ∧ hist2.length ≤ hist.length + j + 1 ∧ hist2[0]? = hist[0]? ∧ ButS [q, x, Ls] H H' ∧ (∀ a ∈ S, ∃ o, H' a = some o), ?_, ?_⟩
      · obtain ⟨es, ec, hSc⟩ := hL3.cur
        obtain ⟨ls, lc, pc⟩ := hL3.sts
        have hil := (List.getElem?_eq_some_iff.mp ec).1
        obtain ⟨dx, d, t, tp, ta, hx, hI⟩ := hSc.fld
        have ll : ls.length = hist'.length := paired_len pc
        have hpa : (hist'.take i').length = i' := by rw [List.length_take]; omega
        have hah : (hist'.drop (i' + 1)).reverse.length = hist'.length - (i' + 1) := by rw [List.length_reverse, List.length_drop]
        refine ⟨_, rfl, _, _, rfl, rfl, _, rfl, ?_⟩
        refine ite2 (fun hc => ?_) (fun hc => ?_)
        · have hc := of_decide_eq_true hc
          refine ⟨_, rfl, rfl, _, rfl, ?_⟩
          obtain rfl | rfl : way = 0 ∨ way = 1 := by omega
          · refine if_true_of (by rfl) ⟨(by show 2 ≤ sizeLine; decide), fun tt htt => ?_⟩
            have sT := same_new (o := .tup [.str "undo", .int 0]) htt
            refine ⟨tt, _, rfl, SqT.of upd_same, rfl, _, _, rfl, _, _, rfl, rfl, ?_⟩
            have hL4 := hL3.same sT
            have hS4 := hSc.same sT
            have hP4 := hP3.same sT
            have b4 := b3.trans (ButS.of sT)
            have al4 : ∀ a ∈ S, ∃ o, (upd H3 tt (.tup [.str "undo", .int 0])) a = some o := fun a ha => by
              obtain ⟨o, e⟩ := al3 a ha
              exact ⟨o, sT _ _ e⟩
            obtain ⟨dx4, d4, t4, tp4, ta4, hx4, _⟩ := hS4.fld
            refine ⟨_, rfl, _, rfl, x, "undo", es, _, _, rfl, .inl rfl, hS4, by omega, by omega, fun _ => ⟨fun e H' s' => ?_, fun p e1 e H' b hS' => ?_⟩, fun z => absurd z (by decide)⟩
            · have i0 : i' = 0 := by rw [← hpa, e]; rfl
              subst i0
              refine ⟨_, rfl, _, rfl, rfl, rfl, _, rfl, if_false_of (by rfl) ?_⟩
              refine ⟨_, rfl, _, rfl, _, rfl, rfl, _, rfl, if_true_of (by rfl) ⟨_, _, rfl, rfl, ?_⟩⟩
              exact ⟨_, _, _, _, _, hist', 0, rfl, (hP4.same s').mono (by omega), hL4.same s', by omega, hz2, b4.trans (ButS.of s'), fun a ha => by
                obtain ⟨o, e⟩ := al4 a ha
                exact ⟨o, s' _ _ e⟩⟩
            · obtain ⟨hL5, i0⟩ := led_back hL4 ec e b hS'
              have hP5 := hP4.but hx4 b
              have b5 : ButS [q, x, Ls] H H' := b4.trans (ButS.but (by simp) b)
              have ni : (!decide (V.int (i' : Nat) = V.int 0)) = true := by
                rw [decide_eq_false]
                · rfl
                · intro z
                  injection z with z
                  omega
              refine ⟨_, rfl, _, rfl, rfl, rfl, _, rfl, if_false_of (by rw [ni]; rfl) ?_⟩
              refine ⟨_, rfl, _, rfl, _, rfl, rfl, _, rfl, if_false_of (by rw [Bool.not_eq_true'] at ni; exact ni) ?_⟩
              refine ⟨_, rfl, rfl, _, rfl, if_true_of (by rfl) ⟨_, rfl, _, _, rfl, rfl, ?_⟩⟩
              dsimp only
              rw [show (i' : Int) + (-1) = ((i' - 1 : Nat) : Int) by omega]
              exact ⟨_, _, _, _, _, hist', i' - 1, rfl, hP5.mono (by omega), hL5, by omega, hz2, b5, alive (b5) hP5 hL5 hal⟩
          · refine if_false_of (by rfl) ⟨_, rfl, Ls, _, rfl, .inl (SqL.of lc), _, _, rfl, rfl, ?_⟩
            refine tNil_to ⟨(by show 2 ≤ sizeLine; decide), fun tt htt => ?_⟩
            dsimp only at htt ⊢
            rw [show ((ls.map V.ref).length : Int) - 1 = ((hist'.length - 1 : Nat) : Int) by rw [List.length_map]; omega]
            have sT := same_new (o := .tup [.str "redo", .int (hist'.length - 1 : Nat)]) htt
            refine ⟨tt, _, rfl, SqT.of upd_same, rfl, _, _, rfl, _, _, rfl, rfl, ?_⟩
            have hL4 := hL3.same sT
            have hS4 := hSc.same sT
            have hP4 := hP3.same sT
            have b4 := b3.trans (ButS.of sT)
            have al4 : ∀ a ∈ S, ∃ o, (upd H3 tt (.tup [.str "redo", .int (hist'.length - 1 : Nat)])) a = some o := fun a ha => by
              obtain ⟨o, e⟩ := al3 a ha
              exact ⟨o, sT _ _ e⟩
            obtain ⟨dx4, d4, t4, tp4, ta4, hx4, _⟩ := hS4.fld
            refine ⟨_, rfl, _, rfl, x, "redo", es, _, _, rfl, .inr rfl, hS4, by omega, by omega, fun z => absurd z (by decide), fun _ => ⟨fun e H' s' => ?_, fun p e1 e H' b hS' => ?_⟩⟩
            · have i0 : i' = hist'.length - 1 := by
                rw [e] at hah
                have : ([] : List (List Ent)).length = 0 := rfl
                omega
              have ni : (!decide (V.int (i' : Nat) = V.int (hist'.length - 1 : Nat))) = false := by rw [← i0, decide_eq_true rfl]; rfl
              refine ⟨_, rfl, _, rfl, rfl, rfl, _, rfl, if_false_of (by rw [ni]; rfl) ?_⟩
              refine ⟨_, rfl, _, rfl, _, rfl, rfl, _, rfl, if_true_of (by rw [← i0]; exact decide_eq_true rfl) ⟨_, _, rfl, rfl, ?_⟩⟩
              dsimp only
              rw [Int.add_zero]
              exact ⟨_, _, _, _, _, hist', i', rfl, (hP4.same s').mono (by omega), hL4.same s', by omega, hz2, b4.trans (ButS.of s'), fun a ha => by
                obtain ⟨o, e⟩ := al4 a ha
                exact ⟨o, s' _ _ e⟩⟩
            · obtain ⟨hL5, i0⟩ := led_forth hL4 ec e b hS'
              have hP5 := hP4.but hx4 b
              have b5 : ButS [q, x, Ls] H H' := b4.trans (ButS.but (by simp) b)
              have ni : (!decide (V.int (i' : Nat) = V.int (hist'.length - 1 : Nat))) = true := by
                rw [decide_eq_false]
                · rfl
                · intro z
                  injection z with z
                  omega
              refine ⟨_, rfl, _, rfl, rfl, rfl, _, rfl, if_false_of (by rw [ni]; rfl) ?_⟩
              refine ⟨_, rfl, _, rfl, _, rfl, rfl, _, rfl, if_false_of (by rw [Bool.not_eq_true'] at ni; exact ni) ?_⟩
              refine ⟨_, rfl, rfl, _, rfl, if_false_of (by rfl) ⟨_, _, rfl, rfl, ?_⟩⟩
              exact ⟨_, _, _, _, _, hist', i' + 1, rfl, hP5.mono (by omega), hL5, by omega, hz2, b5, alive (b5) hP5 hL5 hal⟩
        · clear hc
          have nLsq : Ls ∉ [q, x] := by simp only [List.mem_cons, List.not_mem_nil, or_false]; exact fun z => by rcases z with z | z; exact nqs z.symm; exact Lsx z
          have sub2 : ∀ a ∈ [q, x], a ∈ S := fun a ha => by
            simp only [List.mem_cons, List.not_mem_nil, or_false] at ha
            rcases ha with rfl | rfl
            · exact qS
            · exact xS
          have mut2 : ∀ a ∈ [q, x], Mut T H3 a := fun a ha => by
            simp only [List.mem_cons, List.not_mem_nil, or_false] at ha
            rcases ha with rfl | rfl
            · obtain ⟨_, hq⟩ := hP3.at
              exact .inl ⟨_, hq⟩
            · exact .inr ⟨dx, _, _, _, _, hx⟩
          have up3 : ∀ {H1 H2 : Hp}, ButS [q, x] H1 H2 → ButS [q, x, Ls] H1 H2 := fun b => b.sub fun a ha => by
            simp only [List.mem_cons, List.not_mem_nil, or_false] at ha ⊢
            rcases ha with rfl | rfl <;> simp
          refine ⟨_, rfl, _, rfl, _, rfl, q, x, L, n + 1 + 30 * j + 1, ns, es, _, _, rfl, hP3, by omega, hSc, by omega, SqL.of (b3 _ _ Lno hL), nLq, n0, n7, hns, hL3.sub es (List.mem_of_getElem? ec), fun H' hP5 hS5 b => ?_, fun l st es' H' hP5 hS5 b hl hst hSt hsub' => ?_⟩
          · have hL5 : LedAt T S ns H' x Ls hist' i' := ⟨xS, lS, ⟨es, ec, hS5⟩, ⟨ls, b _ _ nLsq lc, sts_stay sub2 mut2 b pc⟩, hL3.sub⟩
            have b5 := b3.trans (up3 b)
            exact ⟨_, rfl, rfl, _, rfl, if_false_of (by rw [decide_eq_true rfl]; rfl) ⟨_, _, _, _, _, hist', i', rfl, hP5.mono (by omega), hL5, by omega, hz2, b5, alive b5 hP5 hL5 hal⟩⟩
          · refine ⟨_, rfl, rfl, _, rfl, if_true_of (by rw [decide_eq_false (fun z => by cases z)]; rfl) ?_⟩
            refine ⟨_, rfl, (by show 1 ≤ sizeLine; decide), fun M hM => ?_⟩
            have sM := same_new (o := .lst [V.ref l]) hM
            have bM : ButS [q, x] H3 (upd H' M (.lst [V.ref l])) := b.trans (ButS.of sM)
            have nl : l ∉ S := fun z => by
              obtain ⟨o, e⟩ := al3 l z
              rw [hl] at e; cases e
            obtain ⟨hL6, hLs6, _⟩ := led_new hL3 ec lc sub2 mut2 bM nLsq (hS5.same sM) nl hst (hSt.same sM) hsub'
            have hP6 := hP5.same sM
            have hM6 : (upd H' M (.lst [V.ref l])) M = some (.lst [V.ref l]) := upd_same
            have nML : Ls ≠ M := fun z => by
              rw [← z, b _ _ nLsq lc] at hM; cases hM
            generalize upd H' M (.lst [V.ref l]) = G at sM bM hL6 hLs6 hP6 hM6 ⊢
            refine ⟨_, rfl, _, rfl, _, _, rfl, rfl, Ls, M, ls.map V.ref, [.ref l], i' + 1, rfl, rfl, rfl, hLs6, hM6, nML, by rw [List.length_map]; omega, by rw [List.length_map, sizeLine_eq]; show _ + 1 ≤ _; omega, ?_⟩
            refine ⟨_, rfl, _, _, rfl, rfl, ?_⟩
            have hP7 : Pen (upd G Ls (.lst ((ls.map V.ref).take (i' + 1) ++ [V.ref l]))) q (n + 1 + 30 * j + 1 + 20) := by
              cases ls with
              | nil => exact absurd ll (by show ¬ (0 = _); omega)
              | cons a r => exact hP6.updR hLs6 (fun z => nqs z.symm)
            have b7 : ButS [q, x, Ls] H (upd G Ls (.lst ((ls.map V.ref).take (i' + 1) ++ [V.ref l]))) := (b3.trans (up3 bM)).trans fun a o n e => by
              rw [upd_ne (fun z => n (by rw [z]; simp))]
              exact e
            have hz7 : (hist'.take (i' + 1) ++ [es'])[0]? = hist[0]? := by
              rw [List.getElem?_append_left (by rw [List.length_take]; omega), List.getElem?_take_of_lt (by omega)]
              exact hz2
            exact ⟨_, _, _, _, _, hist'.take (i' + 1) ++ [es'], i' + 1, rfl, hP7.mono (by omega), hL6, by rw [List.length_append, List.length_take, List.length_singleton]; omega, hz7, b7, alive b7 hP7 hL6 hal⟩
      · rintro σ H4 ⟨v5, v6, v7, v8, v9, hist2, i2, rfl, hP4, hL4, hl4, hz4, b4, al4⟩
        exact ⟨_, rfl, _, rfl, _, rfl, x, Ls, S, ns, hist2, i2, rfl, hL4, by omega, fun H5 s5 => ⟨true, rfl, iteF ⟨_, _, _, _, _, hist2, i2, rfl, (hP4.same s5).mono (by omega), hL4.same s5, by omega, hz4, b4.trans (ButS.of s5), fun a ha => by
          obtain ⟨o, e⟩ := al4 a ha
          exact ⟨o, s5 _ _ e⟩⟩⟩⟩
    · rintro σ H2 ⟨v5, v6, v7, v8, v9, hist', i', rfl, hP2, hL2, hl2, hz2, b2, al2⟩
      exact ⟨_, rfl, k H2 hist' i' (hP2.mono (by omega)) hL2 (by omega) hz2 b2 al2⟩

/-- at D a list of ways -/
def WayAt (H : Hp) (t : Addr) (w : Bool × Nat) : Prop := H t = some (.tup [.str (if w.1 = true then "undo" else "redo"), .int (w.2 : Nat)])
def WaysAt (H : Hp) (D : Addr) (ws : List (Bool × Nat)) : Prop := ∃ ts : List Addr, H D = some (.lst (ts.map V.ref)) ∧ PySem.Paired (WayAt H) ts ws
theorem ways_same {H H' : Hp} (s : Same H H') : ∀ {ts : List Addr} {ws : List (Bool × Nat)}, PySem.Paired (WayAt H) ts ws → PySem.Paired (WayAt H') ts ws
  | _, _, .nil => .nil
  | _, _, .cons h t => .cons (s _ _ h) (ways_same s t)
theorem paired_app {α β : Type} {R : α → β → Prop} : ∀ {as as' : List α} {bs bs' : List β}, PySem.Paired R as bs → PySem.Paired R as' bs' → PySem.Paired R (as ++ as') (bs ++ bs')
  | _, _, _, _, .nil, h => h
  | _, _, _, _, .cons x t, h => .cons x (paired_app t h)
/-- each way leads on, from p to fin -/
def Ch (e : Nat) : Nat → List (Bool × Nat) → Nat → Prop
  | p, [], fin => p = fin
  | p, (true, k) :: r, fin => k + 1 = p ∧ Ch e k r fin
  | p, (false, k) :: r, fin => k = p + 1 ∧ k ≤ e ∧ Ch e k r fin
theorem ch_down {e p fin : Nat} : ∀ {t : Nat} {r : List (Bool × Nat)}, t ≤ p → Ch e (p - t) r fin → Ch e p ((List.range t).map (fun j => (true, p - 1 - j)) ++ r) fin
  | 0, _, _, h => h
  | t + 1, r, ht, h => by
    rw [List.range_succ, List.map_append, List.append_assoc]
    refine ch_down (t := t) (by omega) ?_
    show Ch e (p - t) ((true, p - 1 - t) :: r) fin
    exact ⟨by omega, by rw [show p - 1 - t = p - (t + 1) by omega]; exact h⟩
theorem ch_up {e p fin : Nat} : ∀ {t : Nat} {r : List (Bool × Nat)}, p + t ≤ e → Ch e (p + t) r fin → Ch e p ((List.range t).map (fun j => (false, p + 1 + j)) ++ r) fin
  | 0, _, _, h => h
  | t + 1, r, ht, h => by
    rw [List.range_succ, List.map_append, List.append_assoc]
    refine ch_up (t := t) (by omega) ?_
    show Ch e (p + t) ((false, p + 1 + t) :: r) fin
    exact ⟨by omega, by omega, by rw [show p + 1 + t = p + (t + 1) by omega]; exact h⟩
theorem ways_put {H' : Hp} {D t : Addr} {ts : List Addr} {ws : List (Bool × Nat)} {w : Bool × Nat} (hD : H' D = some (.lst (ts.map V.ref))) (hp : PySem.Paired (WayAt H') ts ws) (ht : WayAt H' t w) : WaysAt (upd H' D (.lst (ts.map V.ref ++ [V.ref t]))) D (ws ++ [w]) := by
  have keep : ∀ {a : Addr} {u : Bool × Nat}, WayAt H' a u → WayAt (upd H' D (.lst (ts.map V.ref ++ [V.ref t]))) a u := fun {a u} h => by
    unfold WayAt
    rw [upd_ne]
    · exact h
    · rintro rfl
      unfold WayAt at h
      rw [hD] at h; cases h
  have go : ∀ {ts : List Addr} {ws : List (Bool × Nat)} {G : Hp}, (∀ {a : Addr} {u : Bool × Nat}, WayAt H' a u → WayAt G a u) → PySem.Paired (WayAt H') ts ws → PySem.Paired (WayAt G) ts ws := by
    intro ts ws G k h
    induction h with
    | nil => exact .nil
    | cons a _ ih => exact .cons (k a) ih
  exact ⟨ts ++ [t], by rw [upd_same, List.map_append]; rfl, paired_snoc (go keep hp) (keep ht)⟩
def StepOk (T : Txt K mg) (H : Hp) (x : Addr) (way : Str) (Rt Rf : Hp → Prop) : Prop := ∃ (es : List Ent) (past ahead : List (List Ent)), (way = "undo" ∨ way = "redo") ∧ ShAt T H x es past ahead ∧ past.length < 1000 ∧ ahead.length < 1000 ∧ ∀ (Qt Qf : Hp → Prop), (∀ H', Rt H' → Qt H') → (∀ H', Rf H' → Qf H') →
  (way = "undo" → (past = [] → ∀ H', Same H H' → Qf H') ∧ ∀ p e1, past = p ++ [e1] → ∀ H', But x H H' → ShAt T H' x e1 p (ahead ++ [es]) → Qt H') ∧
  (way = "redo" → (ahead = [] → ∀ H', Same H H' → Qf H') ∧ ∀ p e1, ahead = p ++ [e1] → ∀ H', But x H H' → ShAt T H' x e1 (past ++ [es]) p → Qt H')
theorem step_at {T : Txt K mg} {S : List Addr} {ns : List Str} {H : Hp} {x Ls : Addr} {hist : List (List Ent)} {p : Nat} (L : LedAt T S ns H x Ls hist p) (hlen : hist.length ≤ 200) {b : Bool} {k : Nat} (h : (b = true ∧ k + 1 = p) ∨ (b = false ∧ k = p + 1 ∧ k < hist.length)) :
    StepOk T H x (if b = true then "undo" else "redo") (fun H' => But x H H' ∧ LedAt T S ns H' x Ls hist k) (fun _ => False) := by
  obtain ⟨es, ec, hS⟩ := L.cur
  have hil := (List.getElem?_eq_some_iff.mp ec).1
  have hpa : (hist.take p).length = p := by rw [List.length_take]; omega
  have hah : (hist.drop (p + 1)).reverse.length = hist.length - (p + 1) := by rw [List.length_reverse, List.length_drop]
  rcases h with ⟨rfl, hk⟩ | ⟨rfl, hk, hk2⟩
  · refine ⟨es, _, _, .inl rfl, hS, by omega, by omega, fun Qt Qf q1 q2 => ⟨fun _ => ⟨fun e H' s' => ?_, fun p' e1 e H' b hS' => ?_⟩, fun z => absurd z (by decide)⟩⟩
    · rw [e] at hpa
      have : ([] : List (List Ent)).length = 0 := rfl
      omega
    · obtain ⟨hL5, _⟩ := led_back L ec e b hS'
      rw [show p - 1 = k by omega] at hL5
      exact q1 H' ⟨b, hL5⟩
  · refine ⟨es, _, _, .inr rfl, hS, by omega, by omega, fun Qt Qf q1 q2 => ⟨fun z => absurd z (by decide), fun _ => ⟨fun e H' s' => ?_, fun p' e1 e H' b hS' => ?_⟩⟩⟩
    · rw [e] at hah
      have : ([] : List (List Ent)).length = 0 := rfl
      omega
    · obtain ⟨hL5, _⟩ := led_forth L ec e b hS'
      rw [show p + 1 = k by omega] at hL5
      exact q1 H' ⟨b, hL5⟩
theorem step_end {T : Txt K mg} {S : List Addr} {ns : List Str} {H : Hp} {x Ls : Addr} {hist : List (List Ent)} {p : Nat} (L : LedAt T S ns H x Ls hist p) (hlen : hist.length ≤ 200) {way : Str} (h : (way = "undo" ∧ p = 0) ∨ (way = "redo" ∧ p + 1 = hist.length)) :
    StepOk T H x way (fun _ => False) (fun H' => Same H H') := by
  obtain ⟨es, ec, hS⟩ := L.cur
  have hil := (List.getElem?_eq_some_iff.mp ec).1
  have hpa : (hist.take p).length = p := by rw [List.length_take]; omega
  have hah : (hist.drop (p + 1)).reverse.length = hist.length - (p + 1) := by rw [List.length_reverse, List.length_drop]
  rcases h with ⟨rfl, hk⟩ | ⟨rfl, hk⟩
  · refine ⟨es, _, _, .inl rfl, hS, by omega, by omega, fun Qt Qf q1 q2 => ⟨fun _ => ⟨fun e H' s' => q2 H' s', fun p' e1 e H' b hS' => ?_⟩, fun z => absurd z (by decide)⟩⟩
    rw [e, List.length_append, List.length_singleton] at hpa
    omega
  · refine ⟨es, _, _, .inr rfl, hS, by omega, by omega, fun Qt Qf q1 q2 => ⟨fun z => absurd z (by decide), fun _ => ⟨fun e H' s' => q2 H' s', fun p' e1 e H' b hS' => ?_⟩⟩⟩
    rw [e, List.length_append, List.length_singleton] at hah
    omega
def spWalked (T : Txt K mg) : Sp := fun vs H Q _ => ∃ (x Ls : Addr) (S : List Addr) (ns : List Str) (hist : List (List Ent)) (i : Nat), vs = [.ref x, .ref Ls, .int (i : Nat)] ∧ LedAt T S ns H x Ls hist i ∧ hist.length ≤ 200 ∧ ∀ H', But x H H' → LedAt T S ns H' x Ls hist i → Q (.bl true) H'
theorem ok_walked (HP : PrF lawFile P) (T : Txt K mg) (W : Whl T) (B : Caught T) (B1 : Caught1 T) : FnG P w K mg base CX0 10 T.a_walked (spWalked T) := by
  refine FnG.mk0 T.F_walked sc_walked (b_walked T) (fun vs H Q E h => ?_) (fun cdv A outer s H vs Q E gu hr h => ?_)
  · obtain ⟨x, Ls, S, ns, hist, i, rfl, _⟩ := h; rfl
  · obtain ⟨x, Ls, S, ns, hist, i, rfl, hL, hlen, k⟩ := h
    refine ⟨_, pss_cons (ps_set (i := 3) sc_walked.nd rfl (Or.inl rfl) (pe_op op_sub (pe_callB call_len_seq (by rfl) T.n_len (by decide +kernel) (pa_cons (pv 1) (pa_nil))) (pe_int)))
      (pss_cons (ps_set (i := 4) sc_walked.nd rfl (Or.inl rfl) (pe_op op_cat (pe_lc (own := [("_law_k", 5)]) (g := gName 5) (tt := tYes) rfl sc_walked.nd (pi_range3 (by rfl) T.n_range (pa_cons (pe_op op_sub (pv 2) (pe_int)) (pa_cons (pe_un un_neg (pe_int)) (pa_cons (pe_un un_neg (pe_int)) (pa_nil))))) (blkOk_by (own := [("_law_k", 5)]) (N := ["_law_shelf", "_law_states", "_law_at", "_law_end", "_law_ways", "_law_k", "_law_way", "_law_place"]) (sc := defScope s_walked) (by decide +kernel)) (fun _ _ _ _ _ => pg_name (i := 5) sc_walked.nd rfl (Or.inl rfl)) (fun _ _ _ _ _ => pts_nil) (fun _ _ _ _ _ => pe_tup (pa_cons (pe_str) (pa_cons (pv 5) (pa_nil))))) (pe_lc (own := [("_law_k", 5)]) (g := gName 5) (tt := tYes) rfl sc_walked.nd (pi_range2 (by rfl) T.n_range (pa_cons (pe_int) (pa_cons (pe_op op_add (pv 3) (pe_int)) (pa_nil)))) (blkOk_by (own := [("_law_k", 5)]) (N := ["_law_shelf", "_law_states", "_law_at", "_law_end", "_law_ways", "_law_k", "_law_way", "_law_place"]) (sc := defScope s_walked) (by decide +kernel)) (fun _ _ _ _ _ => pg_name (i := 5) sc_walked.nd rfl (Or.inl rfl)) (fun _ _ _ _ _ => pts_nil) (fun _ _ _ _ _ => pe_tup (pa_cons (pe_str) (pa_cons (pv 5) (pa_nil)))))))
      (pss_cons (ps_set (i := 4) sc_walked.nd rfl (Or.inl rfl) (pe_op op_cat (pv 4) (pe_lc (own := [("_law_k", 5)]) (g := gName 5) (tt := tYes) rfl sc_walked.nd (pi_range3 (by rfl) T.n_range (pa_cons (pe_op op_sub (pv 3) (pe_int)) (pa_cons (pe_op op_sub (pv 2) (pe_int)) (pa_cons (pe_un un_neg (pe_int)) (pa_nil))))) (blkOk_by (own := [("_law_k", 5)]) (N := ["_law_shelf", "_law_states", "_law_at", "_law_end", "_law_ways", "_law_k", "_law_way", "_law_place"]) (sc := defScope s_walked) (by decide +kernel)) (fun _ _ _ _ _ => pg_name (i := 5) sc_walked.nd rfl (Or.inl rfl)) (fun _ _ _ _ _ => pts_nil) (fun _ _ _ _ _ => pe_tup (pa_cons (pe_str) (pa_cons (pv 5) (pa_nil)))))))
      (pss_cons (ps_for PassesOwn.never rfl (pi_list (pv 4)) (pg_tup rfl (pgs_cons (pg_name (i := 6) sc_walked.nd rfl (Or.inl rfl)) (pgs_cons (pg_name (i := 7) sc_walked.nd rfl (Or.inl rfl)) (pgs_nil)))) (pss_cons (ps_if (PW.pt (pw_or (pt_not (pt_val (pe_call (ok_step T B1) (hr.mono (by decide)) rfl T.m_step T.F_step.kp (b_step T) .nil pass0 (pa_cons (pv 0) (pa_cons (pv 6) (pa_nil)))))) (pw_or1 (pt_not (pt_val (pe_callG gu (ok_stands HP T W) (hr.mono (by decide)) T.F_stands.kp rfl T.m_stands pass0 (pa_cons (pv 0) (pa_cons (pv 1) (pa_cons (pv 7) (pa_nil)))))))))) (pss_one (ps_ret (pe_bl))) (pss_nil))
      (pss_one (ps_if (PW.pt (pw_or (PW.pt (pw_and (pt_cmpR op_eq (pv 7) (pe_int) (nomark _)) (pw_and1 (pt_val (pe_call (ok_step T B1) (hr.mono (by decide)) rfl T.m_step T.F_step.kp (b_step T) .nil pass0 (pa_cons (pv 0) (pa_cons (pe_str) (pa_nil)))))))) (pw_or1 (PW.pt (pw_and (pt_cmpR op_eq (pv 7) (pv 3) (nomark _)) (pw_and1 (pt_val (pe_call (ok_step T B1) (hr.mono (by decide)) rfl T.m_step T.F_step.kp (b_step T) .nil pass0 (pa_cons (pv 0) (pa_cons (pe_str) (pa_nil))))))))))) (pss_one (ps_ret (pe_bl))) (pss_nil)))))
      (pss_one (ps_ret (pe_bl)))))), ?_⟩
    obtain ⟨es, ec, hSc⟩ := hL.cur
    obtain ⟨ls, lc, pc⟩ := hL.sts
    have ll : ls.length = hist.length := paired_len pc
    have hil := (List.getElem?_eq_some_iff.mp ec).1
    obtain ⟨e, he⟩ : ∃ e, hist.length = e + 1 := ⟨hist.length - 1, by omega⟩
    refine ⟨_, rfl, Ls, _, rfl, .inl (SqL.of lc), _, _, rfl, rfl, ?_⟩
    dsimp only
    rw [show ((ls.map V.ref).length : Int) - 1 = ((e : Nat) : Int) by rw [List.length_map]; omega]
    refine ⟨_, rfl, _, _, rfl, rfl, _, rfl, _, rfl, (i : Int) - 1, -1, -1, i, rfl, ?_, fun D1 hD1 => ?_⟩
    · have := RgC.neg (i := (i : Int) - 1) (j := -1) (by omega) (by omega) (by decide) (by decide)
      rw [show ((i : Int) - 1 - (-1)).toNat = i by omega] at this
      exact this
    refine lc_it (walk_rangeC (lo := (i : Int) - 1) (c := -1) (n := i)) (fun t H' => Same H H' ∧ WaysAt H' D1 ((List.range t).map fun j => (true, i - 1 - j))) ⟨same_new hD1, [], upd_same, .nil⟩ (fun _ _ _ _ => trivial) ?_ ?_
    · rintro t v H2 H3 ht ⟨s2, ts, eD, pw⟩ ⟨rfl, rfl⟩
      refine ⟨rfl, ?_⟩
      refine ⟨_, rfl, tNil_to ⟨(by show 2 ≤ sizeLine; decide), fun a ha => ?_⟩⟩
      dsimp only
      rw [show (i : Int) - 1 + (t : Nat) * (-1) = ((i - 1 - t : Nat) : Int) by omega] at *
      have sa := same_new (o := .tup [.str "undo", .int (i - 1 - t : Nat)]) ha
      have lt := paired_len pw
      rw [List.length_map, List.length_range] at lt
      refine ⟨_, sa _ _ eD, by rw [List.length_map, lt, sizeLine_eq]; omega, same_upN (s2.trans sa) hD1, ?_⟩
      rw [List.range_succ, List.map_append]
      exact ways_put (w := (true, i - 1 - t)) (sa _ _ eD) (ways_same sa pw) upd_same
    · rintro H2 ⟨s2, ts1, eD1, pw1⟩
      refine ⟨_, rfl, _, _, rfl, rfl, 1, (e : Int) + 1, rfl, ⟨by decide, by decide, by omega, by omega⟩, fun D2 hD2 => ?_⟩
      refine lc_range (lo := 1) (n := ((e : Int) + 1 - 1).toNat) (fun t H' => Same H2 H' ∧ WaysAt H' D2 ((List.range t).map fun j => (false, 0 + 1 + j))) ⟨same_new hD2, [], upd_same, .nil⟩ ?_ ?_
      · rintro t H3 ht ⟨s3, ts, eD, pw⟩
        refine ⟨rfl, ?_⟩
        refine ⟨_, rfl, tNil_to ⟨(by show 2 ≤ sizeLine; decide), fun a ha => ?_⟩⟩
        have ht : t < e := by
          have ht : t < ((e : Int) + 1 - 1).toNat := ht
          omega
        dsimp only
        rw [show (1 : Int) + (t : Nat) = ((0 + 1 + t : Nat) : Int) by omega] at *
        have sa := same_new (o := .tup [.str "redo", .int (0 + 1 + t : Nat)]) ha
        have lt := paired_len pw
        rw [List.length_map, List.length_range] at lt
        refine ⟨_, sa _ _ eD, by rw [List.length_map, lt, sizeLine_eq]; omega, same_upN (s3.trans sa) hD2, ?_⟩
        rw [List.range_succ, List.map_append]
        exact ways_put (w := (false, 0 + 1 + t)) (sa _ _ eD) (ways_same sa pw) upd_same
      · rintro H3 ⟨s3, ts2, eD2, pw2⟩
        rw [show ((e : Int) + 1 - 1).toNat = e by omega] at pw2
        have l1 := paired_len pw1
        have l2 := paired_len pw2
        rw [List.length_map, List.length_range] at l1 l2
        refine ⟨D1, D2, _, _, rfl, rfl, s3 _ _ eD1, eD2, by rw [List.length_map, List.length_map, l1, l2, sizeLine_eq]; omega, fun M hM => ?_⟩
        have sM := same_new (o := .lst (ts1.map V.ref ++ ts2.map V.ref)) hM
        have eM : (upd H3 M (.lst (ts1.map V.ref ++ ts2.map V.ref))) M = some (.lst ((ts1 ++ ts2).map V.ref)) := by rw [upd_same, List.map_append]
        have pM := ways_same sM (paired_app (ways_same s3 pw1) pw2)
        have s4 := (s2.trans s3).trans sM
        generalize upd H3 M (.lst (ts1.map V.ref ++ ts2.map V.ref)) = H4 at eM pM s4 ⊢
        refine ⟨_, rfl, _, rfl, _, _, rfl, rfl, _, rfl, _, _, rfl, rfl, _, rfl, (e : Int) - 1, (i : Int) - 1, -1, e - i, rfl, ?_, fun D3 hD3 => ?_⟩
        · have := RgC.neg (i := (e : Int) - 1) (j := (i : Int) - 1) (by omega) (by omega) (by omega) (by omega)
          rw [show ((e : Int) - 1 - ((i : Int) - 1)).toNat = e - i by omega] at this
          exact this
        refine lc_it (walk_rangeC (lo := (e : Int) - 1) (c := -1) (n := e - i)) (fun t H' => Same H4 H' ∧ WaysAt H' D3 ((List.range t).map fun j => (true, e - 1 - j))) ⟨same_new hD3, [], upd_same, .nil⟩ (fun _ _ _ _ => trivial) ?_ ?_
        · rintro t v H5 H6 ht ⟨s5, ts, eD, pw⟩ ⟨rfl, rfl⟩
          refine ⟨rfl, ?_⟩
          refine ⟨_, rfl, tNil_to ⟨(by show 2 ≤ sizeLine; decide), fun a ha => ?_⟩⟩
          dsimp only
          rw [show (e : Int) - 1 + (t : Nat) * (-1) = ((e - 1 - t : Nat) : Int) by omega] at *
          have sa := same_new (o := .tup [.str "undo", .int (e - 1 - t : Nat)]) ha
          have lt := paired_len pw
          rw [List.length_map, List.length_range] at lt
          refine ⟨_, sa _ _ eD, by rw [List.length_map, lt, sizeLine_eq]; omega, same_upN (s5.trans sa) hD3, ?_⟩
          rw [List.range_succ, List.map_append]
          exact ways_put (w := (true, e - 1 - t)) (sa _ _ eD) (ways_same sa pw) upd_same
        · rintro H5 ⟨s5, ts3, eD3, pw3⟩
          have l3 := paired_len pw3
          rw [List.length_map, List.length_range] at l3
          refine ⟨M, D3, _, _, rfl, rfl, s5 _ _ eM, eD3, by rw [List.length_map, List.length_map, List.length_append, l1, l2, l3, sizeLine_eq]; omega, fun M2 hM2 => ?_⟩
          have sM2 := same_new (o := .lst ((ts1 ++ ts2).map V.ref ++ ts3.map V.ref)) hM2
          have eM2 : (upd H5 M2 (.lst ((ts1 ++ ts2).map V.ref ++ ts3.map V.ref))) M2 = some (.lst ((ts1 ++ ts2 ++ ts3).map V.ref)) := by rw [upd_same, ← List.map_append]
          have pM2 := ways_same sM2 (paired_app (ways_same s5 pM) pw3)
          have s6 := (s4.trans s5).trans sM2
          have M2x : M2 ≠ x := fun z => by
            obtain ⟨dx, d, t, tp, ta, hx, _⟩ := hSc
            rw [z, (s4.trans s5) _ _ hx] at hM2
            cases hM2
          generalize upd H5 M2 (.lst ((ts1 ++ ts2).map V.ref ++ ts3.map V.ref)) = H6 at eM2 pM2 s6 ⊢
          have ch : Ch e i ((List.range i).map (fun j => (true, i - 1 - j)) ++ (List.range e).map (fun j => (false, 0 + 1 + j)) ++ (List.range (e - i)).map (fun j => (true, e - 1 - j))) i := by
            rw [List.append_assoc]
            refine ch_down (Nat.le_refl _) ?_
            rw [Nat.sub_self]
            refine ch_up (by omega) ?_
            rw [Nat.zero_add]
            have := ch_down (e := e) (p := e) (fin := i) (t := e - i) (r := []) (by omega) (by show e - (e - i) = i; omega)
            rw [List.append_nil] at this
            exact this
          have hL6 := hL.same s6
          generalize ((List.range i).map (fun j => (true, i - 1 - j)) ++ (List.range e).map (fun j => (false, 0 + 1 + j)) ++ (List.range (e - i)).map (fun j => (true, e - 1 - j))) = ws at pM2 ch
          generalize ts1 ++ ts2 ++ ts3 = ts at eM2 pM2
          obtain ⟨dx0, d0, t0, tp0, ta0, hx0, _⟩ := (hSc.same s6)
          refine ⟨_, rfl, M2, rfl, ⟨_, SqL.of eM2⟩, for_list (K := K) (a := M2) (xs := ts.map V.ref) (fun t σ H' => ∃ (v5 v6 v7 : Option V) (p : Nat), σ = [some (.ref x), some (.ref Ls), some (.int (i : Nat)), some (.int (e : Nat)), some (.ref M2), v5, v6, v7] ∧ But x H6 H' ∧ LedAt T S ns H' x Ls hist p ∧ p ≤ e ∧ Ch e p (ws.drop t) i)
            ⟨_, _, _, i, rfl, But.refl _ _, hL6, by omega, ch⟩ (fun t σ H' _ h => by
              obtain ⟨_, _, _, _, _, b, _⟩ := h
              exact SqL.of (b _ _ M2x eM2)) ?_ ?_⟩
          · rintro t v σ H7 hv ⟨v5, v6, v7, p, rfl, b7, hL7, hp7, ch7⟩
            rw [List.getElem?_map] at hv
            obtain ⟨a, ha, rfl⟩ := Option.map_eq_some_iff.mp hv
            obtain ⟨⟨b, kk⟩, hw, hwa⟩ := paired_get pM2 ha
            have hlt := (List.getElem?_eq_some_iff.mp hw).1
            have hdr : ws.drop t = (b, kk) :: ws.drop (t + 1) := by
              rw [List.drop_eq_getElem_cons hlt]
              rw [List.getElem?_eq_getElem hlt] at hw
              rw [Option.some.inj hw]
            rw [hdr] at ch7
            have hwa7 : H7 a = some (.tup [.str (if b = true then "undo" else "redo"), .int (kk : Nat)]) := b7 _ _ (fun z => by
              have hwa : H6 a = some _ := hwa
              rw [z, hx0] at hwa
              cases hwa) hwa
            have hst : ((b = true ∧ kk + 1 = p) ∨ (b = false ∧ kk = p + 1 ∧ kk < hist.length)) ∧ kk ≤ e ∧ Ch e kk (ws.drop (t + 1)) i := by
              cases b with
              | true => exact ⟨.inl ⟨rfl, ch7.1⟩, by have := ch7.1; omega, ch7.2⟩
              | false => exact ⟨.inr ⟨rfl, ch7.1, by have := ch7.2.1; omega⟩, ch7.2.1, ch7.2.2⟩
            obtain ⟨hst, hke, chn⟩ := hst
            refine ⟨a, _, rfl, SqT.of hwa7, rfl, _, _, rfl, _, _, rfl, rfl, ?_⟩
            obtain ⟨es8, pa8, ah8, w8, g1, g2, g3, g4⟩ := step_at hL7 hlen hst
            refine ⟨_, rfl, _, rfl, x, _, es8, pa8, ah8, rfl, w8, g1, g2, g3, g4 _ _ (fun H8 ⟨b8, hL8⟩ => ⟨true, rfl, iteF ?_⟩) (fun _ z => z.elim)⟩
            clear w8 g1 g2 g3 g4
            refine ⟨_, rfl, _, rfl, _, rfl, x, Ls, S, ns, hist, kk, rfl, hL8, hlen, fun H9 s9 => ⟨true, rfl, iteF ?_⟩⟩
            have hL9 := hL8.same s9
            have b9 := (b7.trans b8).trans (But.of (x := x) s9)
            have iw : decide (V.int (kk : Nat) = V.int 0) = decide (kk = 0) := by
              by_cases z : kk = 0
              · rw [decide_eq_true z, z]; rfl
              · rw [decide_eq_false z, decide_eq_false]
                intro y
                injection y with y
                omega
            have iw2 : decide (V.int (kk : Nat) = V.int (e : Nat)) = decide (kk = e) := by
              by_cases z : kk = e
              · rw [decide_eq_true z, z, decide_eq_true rfl]
              · rw [decide_eq_false z, decide_eq_false]
                intro y
                injection y with y
                omega
            refine ⟨_, rfl, rfl, _, rfl, ?_⟩
            rw [iw]
            by_cases h0 : kk = 0
            · rw [decide_eq_true h0]
              obtain ⟨es8, pa8, ah8, w8, g1, g2, g3, g4⟩ := step_end hL9 hlen (.inl ⟨rfl, h0⟩)
              refine iteT ⟨_, rfl, x, _, es8, pa8, ah8, rfl, w8, g1, g2, g3, g4 _ _ (fun _ z => z.elim) fun H10 s10 => ⟨false, rfl, iteF ?_⟩⟩
              clear w8 g1 g2 g3 g4
              have hL10 := hL9.same s10
              refine ⟨_, rfl, _, rfl, rfl, _, rfl, ?_⟩
              rw [iw2]
              by_cases h1 : kk = e
              · rw [decide_eq_true h1]
                obtain ⟨es8, pa8, ah8, w8, g1, g2, g3, g4⟩ := step_end hL10 hlen (.inr ⟨rfl, by omega⟩)
                refine iteT ⟨_, rfl, x, _, es8, pa8, ah8, rfl, w8, g1, g2, g3, g4 _ _ (fun _ z => z.elim) fun H11 s11 => ⟨false, rfl, iteF ?_⟩⟩
                exact ⟨_, _, _, kk, rfl, b9.trans (But.of (s10.trans s11)), hL10.same s11, hke, chn⟩
              · rw [decide_eq_false h1]
                exact iteF (iteF ⟨_, _, _, kk, rfl, b9.trans (But.of s10), hL10, hke, chn⟩)
            · rw [decide_eq_false h0]
              refine iteF (iteF ?_)
              refine ⟨_, rfl, _, rfl, rfl, _, rfl, ?_⟩
              rw [iw2]
              by_cases h1 : kk = e
              · rw [decide_eq_true h1]
                obtain ⟨es8, pa8, ah8, w8, g1, g2, g3, g4⟩ := step_end hL9 hlen (.inr ⟨rfl, by omega⟩)
                refine iteT ⟨_, rfl, x, _, es8, pa8, ah8, rfl, w8, g1, g2, g3, g4 _ _ (fun _ z => z.elim) fun H11 s11 => ⟨false, rfl, iteF ?_⟩⟩
                exact ⟨_, _, _, kk, rfl, b9.trans (But.of s11), hL9.same s11, hke, chn⟩
              · rw [decide_eq_false h1]
                exact iteF (iteF ⟨_, _, _, kk, rfl, b9, hL9, hke, chn⟩)
          · rintro σ H7 ⟨v5, v6, v7, p, rfl, b7, hL7, hp7, ch7⟩
            have lw : ts.length = ws.length := paired_len pM2
            rw [List.length_map, lw, List.drop_length] at ch7
            have ch7 : p = i := ch7
            subst ch7
            exact k H7 ((But.of (x := x) s6).trans b7) hL7

theorem st_put {es : List Ent} {e : Ent} {st : List Row} (nd : (es.map (·.n)).Nodup) (he : e ∈ es) (h : IsSt (putE es e) st) : IsSt es st := by
  have hm : ∀ x, x ∈ putE es e ↔ x ∈ es := fun x => by
    rw [putE_mem]
    constructor
    · rintro (rfl | ⟨h1, _⟩)
      · exact he
      · exact h1
    · intro h1
      by_cases q : x.n = e.n
      · exact .inl (ent_uniq nd h1 he q)
      · exact .inr ⟨h1, q⟩
  refine ⟨h.1, fun r => (h.2 r).trans ?_⟩
  rw [List.mem_map, List.mem_map]
  exact ⟨fun ⟨x, h1, h2⟩ => ⟨x, (hm x).mp h1, h2⟩, fun ⟨x, h1, h2⟩ => ⟨x, (hm x).mpr h1, h2⟩⟩
def sameE : Ent := ⟨"same", false, 9, 0, 0, 5⟩
def spSame (T : Txt K mg) : Sp := fun vs H Q _ => ∃ (x : Addr) (es : List Ent) (past ahead : List (List Ent)), vs = [.ref x] ∧ ShAt T H x es past ahead ∧ past.length < 500 ∧ es.length ≤ 7 ∧ ∀ H', But x H H' → Q (.bl true) H'
theorem ok_same_right (HP : PrF lawFile P) (T : Txt K mg) (W : Whl T) : FnOk P w K mg base CX0 8 T.a_same_right T.fd_same_right ["_law_shelf"] (spSame T) := by
  refine T.F_same_right.ok sc_same_right (fun vs H Q E h => ?_) (fun cdv A outer s H vs Q E hr h => ?_)
  · obtain ⟨x, es, past, ahead, rfl, _⟩ := h; rfl
  · obtain ⟨x, es, past, ahead, rfl, hS, hpl, hl7, k⟩ := h
    refine ⟨_, pss_cons (ps_asg (pe_tup (pa_cons (pe_mkR W.X.mkr ((ok_Exact_init HP T).raw (b_Exact_init T) .nil) (hr.mono (by decide)) passL rfl T.m_Exact (pa_cons (pe_int) (pa_nil))) (pa_cons (pe_int) (pa_nil)))) (pg_sub (pv 0) (pe_str) (set_ownO (ok_Shelf_setitem HP T W) (hr.mono (by decide)) (b_Shelf_setitem T) passN0 T.nq_set T.fi_set T.fn_set)))
      (pss_cons (ps_par (i := 1) (j := 2) (by rfl) sc_same_right.nd rfl rfl (by decide) rfl rfl (pa_cons (pe_call (ok_state HP T W) (hr.mono (by decide)) rfl T.m_state T.F_state.kp (b_state T) .nil pass0 (pa_cons (pv 0) (pa_nil))) (pa_cons (pe_propW (pv 0) T.p_can_undo (ok_Shelf_can_undo T) (hr.mono (by decide)) (b_Shelf_can_undo T) .nil pass0 rfl) (pa_nil))) (by rfl))
      (pss_cons (ps_asg (pe_ixO (ok_Shelf_getitem T) (hr.mono (by decide)) (b_Shelf_getitem T) pass0 T.fi_get (fnIn_of T.F_Shelf_getitem) T.fn_get (pv 0) (pe_str)) (pg_sub (pv 0) (pe_str) (set_ownO (ok_Shelf_setitem HP T W) (hr.mono (by decide)) (b_Shelf_setitem T) passN0 T.nq_set T.fi_set T.fn_set)))
      (pss_cons (ps_if (PW.pt (pw_or (pt_cmpR (op_neD hr.units) (pe_call (ok_state HP T W) (hr.mono (by decide)) rfl T.m_state T.F_state.kp (b_state T) .nil pass0 (pa_cons (pv 0) (pa_nil))) (pv 1) (nomark _)) (pw_or (pt_cmpR op_ne (pe_propW (pv 0) T.p_can_undo (ok_Shelf_can_undo T) (hr.mono (by decide)) (b_Shelf_can_undo T) .nil pass0 rfl) (pe_op op_add (pv 2) (pe_int)) (nomark _)) (pw_or1 (pt_cmpR op_ne (pe_propW (pv 0) T.p_can_redo (ok_Shelf_can_redo T) (hr.mono (by decide)) (b_Shelf_can_redo T) .nil pass0 rfl) (pe_int) (nomark _)))))) (pss_one (ps_ret (pe_bl))) (pss_nil))
      (pss_cons (ps_expr (pe_meth0 (pv 0) T.scls T.s_undo (ok_Shelf_undo T) (hr.mono (by decide)) (b_Shelf_undo T) .nil passN0))
      (pss_one (ps_ret (pe_and (pe_cmpR (op_eqD hr.units) (pe_call (ok_state HP T W) (hr.mono (by decide)) rfl T.m_state T.F_state.kp (b_state T) .nil pass0 (pa_cons (pv 0) (pa_nil))) (pv 1) (nomark _)) (pe_and (pe_cmpR op_eq (pe_propW (pv 0) T.p_can_undo (ok_Shelf_can_undo T) (hr.mono (by decide)) (b_Shelf_can_undo T) .nil pass0 rfl) (pv 2) (nomark _)) (pe_one (pe_cmpR op_eq (pe_propW (pv 0) T.p_can_redo (ok_Shelf_can_redo T) (hr.mono (by decide)) (b_Shelf_can_redo T) .nil pass0 rfl) (pe_int) (nomark _))))))))))), ?_⟩
    obtain ⟨dx, d, t, tp, ta, hx, hI⟩ := hS.fld
    obtain ⟨_, _, _, hnd, _⟩ := hI.di
    intro y dy hy hdy _
    refine okX T W hy hdy (p := 9) ⟨by decide, by decide⟩ fun H1 s1 w1 => ⟨rfl, ?_⟩
    refine ⟨(by show 2 ≤ sizeLine; decide), fun tt htt => ?_⟩
    have s2 := same_new (o := .tup [.ref y, .int 5]) htt
    have S1 := s1.trans s2
    have nf : fullE es sameE = false := by
      unfold fullE
      rw [decide_eq_false (by omega), Bool.and_false]
    refine ⟨_, rfl, x, dx, _, rfl, S1 _ _ hx, x, tt, y, sameE, es, past, ahead, rfl, hS.same S1, by omega, upd_same, ⟨_, _, W.X, w1.same s2⟩, ⟨⟨by decide, by decide⟩, ⟨by decide, by decide⟩, ⟨by decide, by decide⟩, fun z => by cases z⟩, ⟨by decide, by decide⟩, by decide +kernel, nf, fun H2 b2 hS2 => ?_⟩
    have b2 := (But.of (x := x) S1).trans b2
    have nd1 := putE_nodup (e := sameE) hnd
    have hs1 : hasE (putE es sameE) "same" = true := hasE_iff.mpr (List.mem_map.mpr ⟨sameE, putE_mem.mpr (.inl rfl), rfl⟩)
    generalize putE es sameE = es1 at hS2 nd1 hs1
    generalize hp1 : past ++ [es] = past1 at hS2
    have hpl1 : past1.length ≤ 500 := by rw [← hp1, List.length_append, List.length_singleton]; omega
    refine ⟨_, rfl, x, es1, past1, [], rfl, hS2, fun l st H3 s3 hl hst hSt => ?_⟩
    have hS3 := hS2.same s3
    obtain ⟨dx3, d3, t3, tp3, ta3, hx3, _⟩ := hS3.fld
    refine ⟨_, rfl, x, T.a_Shelf, dx3, _, rfl, hx3, T.scls, T.pr_undo, x, es1, past1, [], rfl, hS3, tNil_to ⟨_, _, rfl, ?_⟩⟩
    refine ⟨_, rfl, x, dx3, _, rfl, hx3, x, "same", es1, past1, [], rfl, hS3, by decide, hs1, fun e tt y m1 m2 q1 q2 q3 q4 => ?_⟩
    refine ⟨_, rfl, x, dx3, _, rfl, hx3, x, tt, y, e, es1, past1, [], by rw [m2], hS3, by omega, q1, q2, q3, q4, by rw [m2]; decide +kernel, by unfold fullE; rw [m2, hs1]; rfl, fun H4 b4 hS4 => ?_⟩
    have nlx : l ≠ x := fun z => by
      obtain ⟨rs, h1, _⟩ := hSt
      rw [z, hx3] at h1; cases h1
    have hSt4 : StAt H4 l st := hSt.stay (sh_mut hS3) (ButS.but (by simp) b4) (by simpa using nlx)
    have b4 := (b2.trans (But.of s3)).trans b4
    refine ⟨_, rfl, x, _, _, [], rfl, hS4, fun l2 st2 H5 s5 hl2 hst2 hSt2 => ?_⟩
    obtain rfl := (st_put nd1 m1 hst2).uniq hst
    have ok := ShAt.rows hS3 hst
    have hS5 := hS4.same s5
    obtain ⟨dx5, d5, t5, tp5, ta5, hx5, _⟩ := hS5.fld
    refine ⟨_, rfl, stD st2, stD st2, hSt2.dp, (hSt4.same s5).dp, ok.2, ok.2, _, rfl, if_false_of (by rw [SeqAt.eqv_refl _ ok.1]; rfl) ?_⟩
    refine ⟨_, rfl, x, T.a_Shelf, dx5, _, rfl, hx5, T.scls, T.pr_undo, x, _, _, [], rfl, hS5, _, rfl, _, _, rfl, rfl, rfl, _, rfl, if_false_of (by rw [List.length_append, decide_eq_true (by rfl)]; rfl) ?_⟩
    refine ⟨_, rfl, x, T.a_Shelf, dx5, _, rfl, hx5, T.scls, T.pr_redo, x, _, _, [], rfl, hS5, rfl, _, rfl, if_false_of (by rfl) ?_⟩
    refine ⟨_, rfl, x, dx5, _, rfl, hx5, rfl, x, _, _, [], rfl, hS5, by decide, by rw [List.length_append, List.length_singleton]; omega, fun z => by simp at z, fun p e1 ep H6 b6 hS6 => ?_⟩
    obtain ⟨rfl, ep2⟩ := List.append_inj' ep rfl
    injection ep2 with ep2
    subst ep2
    have hSt6 : StAt H6 l st2 := (hSt4.same s5).stay (sh_mut hS5) (ButS.but (by simp) b6) (by simpa using nlx)
    have b6 := (b4.trans (But.of s5)).trans b6
    refine ⟨_, rfl, x, _, _, _, rfl, hS6, fun l3 st3 H7 s7 hl3 hst3 hSt3 => ?_⟩
    obtain rfl := hst3.uniq hst
    have hS7 := hS6.same s7
    obtain ⟨dx7, d7, t7, tp7, ta7, hx7, _⟩ := hS7.fld
    refine ⟨_, rfl, stD st3, stD st3, hSt3.dp, (hSt6.same s7).dp, ok.2, ok.2, ?_⟩
    rw [SeqAt.eqv_refl _ ok.1]
    refine ⟨_, rfl, iteT ?_⟩
    refine ⟨_, rfl, x, T.a_Shelf, dx7, _, rfl, hx7, T.scls, T.pr_undo, x, _, _, _, rfl, hS7, _, rfl, rfl, _, rfl, if_true_of (by rw [decide_eq_true rfl]) ?_⟩
    refine ⟨_, rfl, x, T.a_Shelf, dx7, _, rfl, hx7, T.scls, T.pr_redo, x, _, _, _, rfl, hS7, rfl, ?_⟩
    exact k H7 (b6.trans (But.of s7))

theorem LedAt.more {T : Txt K mg} {S S' : List Addr} {ns : List Str} {H : Hp} {x Ls : Addr} {hist : List (List Ent)} {i : Nat} (h : ∀ a ∈ S, a ∈ S') (hn : ∀ a ∈ S', a ∈ S ∨ H a = Option.none) (L : LedAt T S ns H x Ls hist i) : LedAt T S' ns H x Ls hist i := by
  obtain ⟨ls, l1, l2⟩ := L.sts
  have go : ∀ {ls : List Addr} {hs : List (List Ent)}, PySem.Paired (StOf S H) ls hs → PySem.Paired (StOf S' H) ls hs := by
    intro ls hs p
    induction p with
    | nil => exact .nil
    | cons a _ ih =>
      obtain ⟨n, st, h1, h2⟩ := a
      refine .cons ⟨fun z => ?_, st, h1, h2⟩ ih
      rcases hn _ z with y | y
      · exact n y
      · obtain ⟨rs, g, _⟩ := h1
        rw [y] at g; cases g
  exact ⟨h _ L.xS, h _ L.lS, L.cur, ⟨ls, l1, go l2⟩, L.sub⟩
theorem led_mut {T : Txt K mg} {S : List Addr} {ns : List Str} {H : Hp} {q x Ls : Addr} {hist : List (List Ent)} {i n : Nat} (L : LedAt T S ns H x Ls hist i) (hP : Pen H q n) : ∀ a ∈ [q, x, Ls], Mut T H a := fun a ha => by
  simp only [List.mem_cons, List.not_mem_nil, or_false] at ha
  rcases ha with rfl | rfl | rfl
  · obtain ⟨_, hq⟩ := hP.at
    exact .inl ⟨_, hq⟩
  · obtain ⟨es, _, dx, d, t, tp, ta, hx, _⟩ := L.cur
    exact .inr ⟨dx, _, _, _, _, hx⟩
  · obtain ⟨ls, l1, _⟩ := L.sts
    exact .inl ⟨_, l1⟩
theorem led_small {T : Txt K mg} {S : List Addr} {ns : List Str} {H : Hp} {x Ls : Addr} {hist : List (List Ent)} {i : Nat} {es : List Ent} (L : LedAt T S ns H x Ls hist i) (h : hist[i]? = some es) {past ahead : List (List Ent)} (hS : ShAt T H x es past ahead) : es.length ≤ ns.length := by
  obtain ⟨dx, d, t, tp, ta, hx, hI⟩ := hS.fld
  obtain ⟨_, _, _, hnd, _⟩ := hI.di
  have := nodup_len hnd (m := ns) fun y hy => by
    obtain ⟨e, h1, rfl⟩ := List.mem_map.mp hy
    exact L.sub es (List.mem_of_getElem? h) e h1
  rwa [List.length_map] at this
def spLaw (K : PySem.W.Frag) : Sp := fun vs H Q _ => ∃ (a : Addr) (ns : List Int), vs = [.ref a] ∧ SqL K H a (ns.map V.int) ∧ ns.length ≤ 63 ∧ ∀ H', Q (.bl true) H'
theorem newS {H : Hp} {x dx : Addr} {o : HO} (hx : H x = Option.none) (hdx : H dx = Option.none) (ne : dx ≠ x) : Same H (upd (upd H dx (.own x)) x o) := (same_new hdx).trans (same_new (by rw [upd_ne (Ne.symm ne)]; exact hx))
theorem ok_law (HP : PrF lawFile P) (T : Txt K mg) (W : Whl T) (B : Caught T) (B1 : Caught1 T) : FnG P w K mg base CX0 12 T.a_law (spLaw K) := by
  refine FnG.mk0 T.F_law sc_law (b_law T) (fun vs H Q E h => ?_) (fun cdv A outer s H vs Q E gu hr h => ?_)
  · obtain ⟨a, ns, rfl, _⟩ := h; rfl
  · obtain ⟨a, ns, rfl, hS, hl, k⟩ := h
    refine ⟨_, pss_cons (ps_set (i := 1) sc_law.nd rfl (Or.inr rfl) (pe_call (ok_pen T) (hr.mono (by decide)) rfl T.m_pen T.F_pen.kp (b_pen T) .nil pass0 (pa_cons (pv 0) (pa_nil))))
      (pss_cons (ps_for PassesOwn.never rfl (pi_range1 (by rfl) T.n_range (pa_cons (pe_int) (pa_nil))) (pg_name (i := 2) sc_law.nd rfl (Or.inl rfl)) (pss_cons (ps_par3 (i := 3) (j := 4) (l := 5) (by rfl) sc_law.nd rfl rfl rfl (by decide) (by decide) (by decide) rfl rfl rfl (pa_cons (pe_make0 T.smk (ok_Shelf_init T) (hr.mono (by decide)) rfl T.m_Shelf (b_Shelf_init T) .nil pass0) (pa_cons (pe_lc (own := [("_law_turn", 6)]) (g := gName 6) (tt := tYes) rfl sc_law.nd (pi_range1 (by rfl) T.n_range (pa_cons (pe_int) (pa_nil))) (blkOk_by (own := [("_law_turn", 6)]) (N := ["_law_script", "_law_pen_here", "_law_lap", "_law_shelf", "_law_names", "_law_states", "_law_turn", "_law_at", "_law_twin", "_law_own", "_law_state_here", "_law_place"]) (sc := defScope s_law) (by decide +kernel)) (fun _ _ _ _ _ => pg_name (i := 6) sc_law.nd rfl (Or.inl rfl)) (fun _ _ _ _ _ => pts_nil) (fun _ _ _ _ _ => pe_call (ok_name T) (hr.mono (by decide)) rfl T.m_name T.F_name.kp (b_name T) .nil pass0 (pa_cons (pv 1) (pa_nil)))) (pa_cons (pe_lst (pa_cons (pe_lst (pa_nil)) (pa_nil))) (pa_nil)))) (by rfl))
      (pss_cons (ps_set (i := 7) sc_law.nd rfl (Or.inl rfl) (pe_callG gu (ok_led HP T W B B1) (hr.mono (by decide)) T.F_led.kp rfl T.m_led pass0 (pa_cons (pv 1) (pa_cons (pv 3) (pa_cons (pv 4) (pa_cons (pv 5) (pa_cons (pe_int) (pa_nil))))))))
      (pss_cons (ps_if (PW.pt (pw_or (pt_cmpR op_isN (pv 7) (pe_non) (nomark _)) (pw_or1 (pt_not (pt_val (pe_callG gu (ok_walked HP T W B B1) (hr.mono (by decide)) T.F_walked.kp rfl T.m_walked pass0 (pa_cons (pv 3) (pa_cons (pv 5) (pa_cons (pv 7) (pa_nil)))))))))) (pss_one (ps_ret (pe_bl))) (pss_nil))
      (pss_cons (ps_par3 (i := 8) (j := 9) (l := 10) (by rfl) sc_law.nd rfl rfl rfl (by decide) (by decide) (by decide) rfl rfl rfl (pa_cons (pe_meth0 (pv 3) T.scls T.s_twin (ok_Shelf_twin T) (hr.mono (by decide)) (b_Shelf_twin T) .nil pass0) (pa_cons (pe_lst (pa_cons (pe_call (ok_state HP T W) (hr.mono (by decide)) rfl T.m_state T.F_state.kp (b_state T) .nil pass0 (pa_cons (pv 3) (pa_nil))) (pa_nil))) (pa_cons (pe_call (ok_state HP T W) (hr.mono (by decide)) rfl T.m_state T.F_state.kp (b_state T) .nil pass0 (pa_cons (pv 3) (pa_nil))) (pa_nil)))) (by rfl))
      (pss_cons (ps_set (i := 11) sc_law.nd rfl (Or.inl rfl) (pe_callG gu (ok_led HP T W B B1) (hr.mono (by decide)) T.F_led.kp rfl T.m_led pass0 (pa_cons (pv 1) (pa_cons (pv 8) (pa_cons (pv 4) (pa_cons (pv 9) (pa_cons (pe_int) (pa_nil))))))))
      (pss_cons (ps_if (PW.pt (pw_or (pt_cmpR op_isN (pv 11) (pe_non) (nomark _)) (pw_or (pt_not (pt_val (pe_callG gu (ok_stands HP T W) (hr.mono (by decide)) T.F_stands.kp rfl T.m_stands pass0 (pa_cons (pv 3) (pa_cons (pv 5) (pa_cons (pv 7) (pa_nil))))))) (pw_or1 (pt_not (pt_val (pe_callG gu (ok_walked HP T W B B1) (hr.mono (by decide)) T.F_walked.kp rfl T.m_walked pass0 (pa_cons (pv 8) (pa_cons (pv 9) (pa_cons (pv 11) (pa_nil))))))))))) (pss_one (ps_ret (pe_bl))) (pss_nil))
      (pss_cons (ps_set (i := 7) sc_law.nd rfl (Or.inl rfl) (pe_callG gu (ok_led HP T W B B1) (hr.mono (by decide)) T.F_led.kp rfl T.m_led pass0 (pa_cons (pv 1) (pa_cons (pv 3) (pa_cons (pv 4) (pa_cons (pv 5) (pa_cons (pv 7) (pa_nil))))))))
      (pss_cons (ps_if (PW.pt (pw_or (pt_cmpR op_isN (pv 7) (pe_non) (nomark _)) (pw_or (pt_not (pt_val (pe_callG gu (ok_walked HP T W B B1) (hr.mono (by decide)) T.F_walked.kp rfl T.m_walked pass0 (pa_cons (pv 3) (pa_cons (pv 5) (pa_cons (pv 7) (pa_nil))))))) (pw_or1 (pt_not (pt_val (pe_callG gu (ok_stands HP T W) (hr.mono (by decide)) T.F_stands.kp rfl T.m_stands pass0 (pa_cons (pv 8) (pa_cons (pv 9) (pa_cons (pv 11) (pa_nil))))))))))) (pss_one (ps_ret (pe_bl))) (pss_nil))
      (pss_one (ps_if (PW.pt (pw_or (pt_cmpR (op_neD hr.units) (pe_ix ix_list (pv 9) (pe_int) (fun _ _ => rfl)) (pv 10) (nomark _)) (pw_or1 (pt_not (pt_val (pe_call (ok_same_right HP T W) (hr.mono (by decide)) rfl T.m_same_right T.F_same_right.kp (b_same_right T) .nil pass0 (pa_cons (pv 3) (pa_nil)))))))) (pss_one (ps_ret (pe_bl))) (pss_nil))))))))))))
      (pss_one (ps_ret (pe_bl)))), ?_⟩
    refine ⟨_, rfl, a, ns, rfl, hS, hl, fun p H1 s1 hP => ?_⟩
    refine ⟨3, rfl, by decide, by decide, for_range (n := 3) (fun i σ H' => ∃ v2 v3 v4 v5 v6 v7 v8 v9 v10 v11 : Option V, σ = [some (.ref a), some (.ref p), v2, v3, v4, v5, v6, v7, v8, v9, v10, v11] ∧ Pen H' p (4000 * i)) ⟨_, _, _, _, _, _, _, _, _, _, rfl, hP⟩ ?_ ?_⟩
    · rintro i σ H2 hi ⟨v2, v3, v4, v5, v6, v7, v8, v9, v10, v11, rfl, hP2⟩
      have hi : i < 3 := hi
      intro x dx hx hdx ne
      refine ⟨x, dx, rfl, upd_same, fun G1 b1 hS1 => ⟨rfl, ?_⟩⟩
      have nxp : x ≠ p := hP2.neq hx
      have hP3 : Pen G1 p (4000 * i) := (hP2.same (newS hx hdx ne)).but upd_same b1
      clear b1
      refine ⟨7, rfl, by decide, by decide, fun L hL0 => ?_⟩
      have nL : L ≠ p := hP3.neq hL0
      refine lc_range (lo := 0) (n := 7) (fun t H' => ∃ zs : List Str, H' L = some (.lst (zs.map V.str)) ∧ zs.length = t ∧ (∀ z ∈ zs, nameB (.str z) = true) ∧ Pen H' p (4000 * i + 5 * t) ∧ Fr p G1 H')
        ⟨[], upd_same, rfl, fun _ h => absurd h List.not_mem_nil, hP3.same (same_new hL0), same_fr (same_new hL0)⟩ ?_ ?_
      · rintro t H' ht ⟨zs, e1, l1, hz, hP5, f5⟩
        have ht : t < 7 := ht
        refine ⟨rfl, ?_⟩
        refine ⟨_, rfl, p, 4000 * i + 5 * t, rfl, hP5, by omega, fun z H'' hz2 hP6 f6 => ?_⟩
        refine ⟨_, f6 _ _ nL e1, by rw [List.length_map, l1, sizeLine_eq]; omega, zs ++ [z], by rw [upd_same, List.map_append]; rfl, by rw [List.length_append, l1]; rfl, fun y hy => ?_, pen_updL hP3 hL0 (f5.trans f6) hP6, fr_updL nL hL0 (f5.trans f6)⟩
        rcases List.mem_append.mp hy with hy | hy
        · exact hz y hy
        · rw [List.mem_singleton] at hy
          rw [hy]; exact hz2
      · rintro H' ⟨zs, hL, l7, hzs, hP5, f5⟩
        have l7 : zs.length = 7 := l7
        have hS5 := ShAt.fr hP3 f5 hS1
        refine ⟨(by show 0 ≤ sizeLine; decide), fun l0 hl0 => tNil_to ⟨(by show 1 ≤ sizeLine; decide), fun Ls hLs => tNil_to ⟨_, _, _, rfl, ?_⟩⟩⟩
        have s0 := same_new (o := .lst []) hl0
        have sLs := same_new (o := .lst [V.ref l0]) hLs
        obtain ⟨dx5, d5, t5, tp5, ta5, hx5, _⟩ := hS5.fld
        have n1 : l0 ≠ p := hP5.neq hl0
        have n2 : l0 ≠ x := fun z => by rw [z, hx5] at hl0; cases hl0
        have n3 : l0 ≠ Ls := fun z => by rw [← z, upd_same] at hLs; cases hLs
        have n4 : Ls ≠ p := (hP5.same s0).neq hLs
        have n5 : L ≠ Ls := fun z => by rw [← z, s0 _ _ hL] at hLs; cases hLs
        have n6 : L ≠ x := fun z => by rw [z, hx5] at hL; cases hL
        have hP6 := (hP5.same s0).same sLs
        have hS6 := (hS5.same s0).same sLs
        have hL6 := sLs _ _ (s0 _ _ hL)
        have e0 := sLs _ _ (show (upd H' l0 (.lst [])) l0 = some (.lst []) from upd_same)
        have eLs : (upd (upd H' l0 (.lst [])) Ls (.lst [V.ref l0])) Ls = some (.lst [V.ref l0]) := upd_same
        generalize upd (upd H' l0 (.lst [])) Ls (.lst [V.ref l0]) = G3 at hP6 hS6 hL6 e0 eLs ⊢
        clear hS5 hS1 hP3 f5 hx5 s0 sLs hP5 hL
        have hLed : LedAt T [p, x, Ls] zs G3 x Ls [[]] 0 := ⟨by simp, by simp, ⟨[], rfl, hS6⟩, ⟨[l0], eLs, .cons ⟨by simp only [List.mem_cons, List.not_mem_nil, or_false]; exact fun z => by rcases z with z | z | z; exact n1 z; exact n2 z; exact n3 z, [], ⟨[], e0, fun r h => absurd h List.not_mem_nil, rfl⟩, List.Pairwise.nil, fun r => by simp⟩ .nil⟩, fun es h => by
          rw [List.mem_singleton.mp h]; exact fun e h => absurd h List.not_mem_nil⟩
        have al6 : ∀ a ∈ [p, x, Ls], ∃ o, G3 a = some o := fun a ha => by
          rcases led_mut hLed hP6 a ha with ⟨_, h⟩ | ⟨_, _, _, _, _, h⟩ <;> exact ⟨_, h⟩
        refine ⟨_, rfl, _, rfl, _, rfl, _, rfl, p, x, L, Ls, [p, x, Ls], 4000 * i + 5 * 7, 0, zs, [[]], rfl, hP6, by omega, hLed, by decide, SqL.of hL6, hL6, nL, n5, fun z => n4 z.symm, by simp, by omega, by omega, hzs, al6, fun H7 h1 i1 hP7 hL7 hl7 hz7 b7 al7 => ?_⟩
        have hl7 : h1.length ≤ 1 + 16 := hl7
        have Lno : L ∉ [p, x, Ls] := by simp only [List.mem_cons, List.not_mem_nil, or_false]; exact fun z => by rcases z with z | z | z; exact nL z; exact n6 z; exact n5 z
        have eL7 := b7 _ _ Lno hL6
        refine ⟨_, rfl, rfl, _, rfl, if_false_of (decide_eq_false fun z => by cases z) ?_⟩
        refine ⟨_, rfl, _, rfl, _, rfl, x, Ls, [p, x, Ls], zs, h1, i1, rfl, hL7, by omega, fun H8 b8 hL8 => ⟨true, rfl, iteF ?_⟩⟩
        obtain ⟨es7, ec7, dx7, d7, t7, tp7, ta7, hx7, _⟩ := hL7.cur
        have hP8 := hP7.but hx7 b8
        have eL8 := b8 _ _ n6 eL7
        clear hL7 hx7 b7 al7 hL6 hP6 hS6 e0 eLs hLed al6 hP7
        obtain ⟨es8, ec8, hS8⟩ := hL8.cur
        obtain ⟨dx8, d8, t8, tp8, ta8, hx8, _⟩ := hS8.fld
        obtain ⟨ls8, lc8, _⟩ := hL8.sts
        refine ⟨_, rfl, x, dx8, _, rfl, hx8, rfl, x, es8, _, _, rfl, hS8, fun z H9 s9 hz hSz => ?_⟩
        refine ⟨_, rfl, x, es8, _, _, rfl, hS8.same s9, fun lA stA H10 s10 hlA hstA hStA => tNil_to ⟨(by show 1 ≤ sizeLine; decide), fun Lo hLo => ?_⟩⟩
        have sLo := same_new (o := .lst [V.ref lA]) hLo
        have eLo : (upd H10 Lo (.lst [V.ref lA])) Lo = some (.lst [V.ref lA]) := upd_same
        have nAo : lA ≠ Lo := fun y => by
          obtain ⟨rs, g, _⟩ := hStA
          rw [y, hLo] at g; cases g
        have hStA := hStA.same sLo
        have hLo8 : H8 Lo = Option.none := none_up (s9.trans s10) hLo
        generalize upd H10 Lo (.lst [V.ref lA]) = H11 at sLo eLo hStA
        refine ⟨_, rfl, x, es8, _, _, rfl, hS8.same ((s9.trans s10).trans sLo), fun lB stB H12 s12 hlB hstB hStB => tNil_to ⟨_, _, _, rfl, ?_⟩⟩
        have S8 := ((s9.trans s10).trans sLo).trans s12
        have S9 := (s10.trans sLo).trans s12
        have in2 : ∀ a ∈ [p, x, Ls], a ∈ [p, x, Ls, z, Lo] := fun a ha => by
          simp only [List.mem_cons, List.not_mem_nil, or_false] at ha ⊢
          rcases ha with y | y | y <;> simp [y]
        have inz : ∀ a ∈ [p, z, Lo], a ∈ [p, x, Ls, z, Lo] := fun a ha => by
          simp only [List.mem_cons, List.not_mem_nil, or_false] at ha ⊢
          rcases ha with y | y | y <;> simp [y]
        have hLx : LedAt T [p, x, Ls, z, Lo] zs H12 x Ls h1 i1 := (hL8.more in2 fun a ha => by
          simp only [List.mem_cons, List.not_mem_nil, or_false] at ha
          rcases ha with y | y | y | y | y
          · exact .inl (by simp [y])
          · exact .inl (by simp [y])
          · exact .inl (by simp [y])
          · exact .inr (by rw [y]; exact hz)
          · exact .inr (by rw [y]; exact hLo8)).same S8
        obtain ⟨_, hp8⟩ := hP8.at
        have zp : z ≠ p := fun y => by rw [y, hp8] at hz; cases hz
        have zx : z ≠ x := fun y => by rw [y, hx8] at hz; cases hz
        have zL : z ≠ Ls := fun y => by rw [y, lc8] at hz; cases hz
        have op : Lo ≠ p := fun y => by rw [y, hp8] at hLo8; cases hLo8
        have ox : Lo ≠ x := fun y => by rw [y, hx8] at hLo8; cases hLo8
        have oL : Lo ≠ Ls := fun y => by rw [y, lc8] at hLo8; cases hLo8
        have zo : z ≠ Lo := fun y => by
          obtain ⟨dz, d, t, tp, ta, hz9, _⟩ := hSz
          rw [← y, s10 _ _ hz9] at hLo; cases hLo
        have nLo : L ≠ Lo := fun y => by rw [← y, eL8] at hLo8; cases hLo8
        have nLz : L ≠ z := fun y => by rw [← y, eL8] at hz; cases hz
        have alA : ∀ a ∈ [p, x, Ls, z], ∃ o, H9 a = some o := fun a ha => by
          simp only [List.mem_cons, List.not_mem_nil, or_false] at ha
          rcases ha with y | y | y | y
          · exact ⟨_, by rw [y]; exact s9 _ _ hp8⟩
          · exact ⟨_, by rw [y]; exact s9 _ _ hx8⟩
          · exact ⟨_, by rw [y]; exact s9 _ _ lc8⟩
          · obtain ⟨dz, d, t, tp, ta, hz9, _⟩ := hSz
            exact ⟨_, by rw [y]; exact hz9⟩
        have nlA : lA ∉ [p, x, Ls, z, Lo] := fun y => by
          by_cases w : lA ∈ [p, x, Ls, z]
          · obtain ⟨o, e⟩ := alA _ w
            rw [hlA] at e; cases e
          · simp only [List.mem_cons, List.not_mem_nil, or_false, not_or] at w y
            rcases y with y | y | y | y | y
            · exact w.1 y
            · exact w.2.1 y
            · exact w.2.2.1 y
            · exact w.2.2.2 y
            · exact nAo y
        have al11 : ∀ a ∈ [p, x, Ls, z, Lo], ∃ o, H11 a = some o := fun a ha => by
          by_cases w : a ∈ [p, x, Ls, z]
          · obtain ⟨o, e⟩ := alA _ w
            exact ⟨o, sLo _ _ (s10 _ _ e)⟩
          · simp only [List.mem_cons, List.not_mem_nil, or_false, not_or] at w ha
            rcases ha with y | y | y | y | y
            · exact absurd y w.1
            · exact absurd y w.2.1
            · exact absurd y w.2.2.1
            · exact absurd y w.2.2.2
            · exact ⟨_, by rw [y]; exact eLo⟩
        have nlB : lB ∉ [p, x, Ls, z, Lo] := fun y => by
          obtain ⟨o, e⟩ := al11 _ y
          rw [hlB] at e; cases e
        have al12 : ∀ a ∈ [p, x, Ls, z, Lo], ∃ o, H12 a = some o := fun a ha => by
          obtain ⟨o, e⟩ := al11 a ha
          exact ⟨o, s12 _ _ e⟩
        have hLz : LedAt T [p, x, Ls, z, Lo] zs H12 z Lo [es8] 0 := ⟨by simp, by simp, ⟨es8, rfl, hSz.same S9⟩, ⟨[lA], s12 _ _ eLo, .cons ⟨nlA, stA, hStA.same s12, hstA⟩ .nil⟩, fun es h => by
          rw [List.mem_singleton.mp h]; exact hL8.sub es8 (List.mem_of_getElem? ec8)⟩
        have okB := ShAt.rows hS8 hstB
        have hP12 := hP8.same S8
        have eL12 := S8 _ _ eL8
        clear hSz hStA hL8 hx8 lc8 hP8 eL8 s9 s10 sLo s12 eLo S8 S9 hS8 hp8 alA al11 hlA hlB hz hLo hLo8 nlA nAo
        refine ⟨_, rfl, _, rfl, _, rfl, _, rfl, p, z, L, Lo, [p, x, Ls, z, Lo], 4000 * i + 5 * 7 + 1000, 0, zs, [es8], rfl, hP12, by omega, hLz, (by show 1 ≤ 150; decide), SqL.of eL12, eL12, nL, nLo, fun y => op y.symm, by simp, by omega, by omega, hzs, al12, fun H13 h2 i2 hP13 hL13 hl13 hz13 b13 al13 => ?_⟩
        have hl13 : h2.length ≤ 1 + 16 := hl13
        have mz : ∀ a ∈ [p, z, Lo], Mut T H12 a := led_mut hLz hP12
        have hLx13 : LedAt T [p, x, Ls, z, Lo] zs H13 x Ls h1 i1 := hLx.stay inz mz b13 (by simp only [List.mem_cons, List.not_mem_nil, or_false]; exact fun y => by rcases y with y | y | y; exact nxp y; exact zx y.symm; exact ox y.symm) (by simp only [List.mem_cons, List.not_mem_nil, or_false]; exact fun y => by rcases y with y | y | y; exact n4 y; exact zL y.symm; exact oL y.symm)
        have eL13 := b13 _ _ (by simp only [List.mem_cons, List.not_mem_nil, or_false]; exact fun y => by rcases y with y | y | y; exact nL y; exact nLz y; exact nLo y) eL12
        have hStB13 : StAt H13 lB stB := hStB.stay mz b13 fun y => nlB (inz _ y)
        refine ⟨_, rfl, rfl, _, rfl, if_false_of (decide_eq_false fun z => by cases z) ?_⟩
        refine ⟨_, rfl, _, rfl, _, rfl, x, Ls, [p, x, Ls, z, Lo], zs, h1, i1, rfl, hLx13, by omega, fun H14 s14 => ⟨true, rfl, iteF ?_⟩⟩
        refine ⟨_, rfl, _, rfl, _, rfl, z, Lo, [p, x, Ls, z, Lo], zs, h2, i2, rfl, hL13.same s14, by omega, fun H15 b15 hL15 => ⟨true, rfl, iteF ?_⟩⟩
        have hL14 := hL13.same s14
        obtain ⟨ez, ecz, hSz14⟩ := hL14.cur
        have mz14 := sh_mut hSz14
        have bz15 : ButS [z] H14 H15 := ButS.but (by simp) b15
        have hLx15 : LedAt T [p, x, Ls, z, Lo] zs H15 x Ls h1 i1 := (hLx13.same s14).stay (S' := [z]) (fun a ha => by rw [List.mem_singleton.mp ha]; simp) mz14 bz15 (by simpa using fun y => zx y.symm) (by simpa using fun y => zL y.symm)
        obtain ⟨dz, _, _, _, _, hz14, _⟩ := hSz14
        have hP15 := (hP13.same s14).but hz14 b15
        have eL15 := b15 _ _ nLz (s14 _ _ eL13)
        have hStB15 : StAt H15 lB stB := (hStB13.same s14).stay mz14 bz15 (by simp only [List.mem_singleton]; exact fun y => nlB (by simp [y]))
        have al15 : ∀ a ∈ [p, x, Ls, z, Lo], ∃ o, H15 a = some o := fun a ha => by
          by_cases w : a = z
          · rcases sh_mut (hL15.cur.choose_spec.2) z (by simp) with ⟨_, h⟩ | ⟨_, _, _, _, _, h⟩ <;> exact ⟨_, by rw [w]; exact h⟩
          · obtain ⟨o, e⟩ := al13 a ha
            exact ⟨o, b15 _ _ w (s14 _ _ e)⟩
        clear hL14 hLx13 hStB13 eL13 al13 hP13 hz14 mz14 bz15 hL13
        refine ⟨_, rfl, _, rfl, _, rfl, _, rfl, _, rfl, p, x, L, Ls, [p, x, Ls, z, Lo], 4000 * i + 5 * 7 + 1000 + 1000, i1, zs, h1, rfl, hP15, by omega, hLx15, by omega, SqL.of eL15, eL15, nL, n5, fun y => n4 y.symm, by simp, by omega, by omega, hzs, al15, fun H16 h3 i3 hP16 hL16 hl16 hz16 b16 al16 => ?_⟩
        have mx : ∀ a ∈ [p, x, Ls], Mut T H15 a := led_mut hLx15 hP15
        have hLz16 : LedAt T [p, x, Ls, z, Lo] zs H16 z Lo h2 i2 := hL15.stay in2 mx b16 (by simp only [List.mem_cons, List.not_mem_nil, or_false]; exact fun y => by rcases y with y | y | y; exact zp y; exact zx y; exact zL y) (by simp only [List.mem_cons, List.not_mem_nil, or_false]; exact fun y => by rcases y with y | y | y; exact op y; exact ox y; exact oL y)
        have hStB16 : StAt H16 lB stB := hStB15.stay mx b16 fun y => nlB (in2 _ y)
        refine ⟨_, rfl, rfl, _, rfl, if_false_of (decide_eq_false fun z => by cases z) ?_⟩
        refine ⟨_, rfl, _, rfl, _, rfl, x, Ls, [p, x, Ls, z, Lo], zs, h3, i3, rfl, hL16, by omega, fun H17 b17 hL17 => ⟨true, rfl, iteF ?_⟩⟩
        obtain ⟨ex, ecx, hSx16⟩ := hL16.cur
        have mx16 := sh_mut hSx16
        have bx17 : ButS [x] H16 H17 := ButS.but (by simp) b17
        have hLz17 : LedAt T [p, x, Ls, z, Lo] zs H17 z Lo h2 i2 := hLz16.stay (S' := [x]) (fun a ha => by rw [List.mem_singleton.mp ha]; simp) mx16 bx17 (by simpa using zx) (by simpa using ox)
        have hStB17 : StAt H17 lB stB := hStB16.stay mx16 bx17 (by simp only [List.mem_singleton]; exact fun y => nlB (by simp [y]))
        obtain ⟨dx16, _, _, _, _, hx16, _⟩ := hSx16
        have hP17 := hP16.but hx16 b17
        refine ⟨_, rfl, _, rfl, _, rfl, z, Lo, [p, x, Ls, z, Lo], zs, h2, i2, rfl, hLz17, by omega, fun H18 s18 => ⟨true, rfl, iteF ?_⟩⟩
        obtain ⟨lo, lo1, lo2⟩ := (hLz17.same s18).sts
        obtain ⟨l', hl', hno', st', hSt', hst'⟩ : ∃ l', lo[0]? = some l' ∧ StOf [p, x, Ls, z, Lo] H18 l' es8 := by
          have e8 : h2[0]? = some es8 := hz13
          have lll := paired_len lo2
          have hlt := (List.getElem?_eq_some_iff.mp e8).1
          have q : lo[0]? = some (lo[0]'(by omega)) := List.getElem?_eq_getElem (by omega)
          obtain ⟨b, c1, c2⟩ := paired_get lo2 q
          rw [e8] at c1
          cases c1
          exact ⟨_, q, c2⟩
        obtain rfl := hst'.uniq hstB
        refine ⟨_, rfl, Lo, _, 0, .ref l', rfl, rfl, SqL.of lo1, at_nat (i := 0) (by rw [List.getElem?_map, hl']; rfl), _, rfl, stD st', stD st', hSt'.dp, (hStB17.same s18).dp, okB.2, okB.2, _, rfl, if_false_of (by rw [SeqAt.eqv_refl _ okB.1]; rfl) ?_⟩
        obtain ⟨ex18, ec18, hSx18⟩ := (hL17.same s18).cur
        have small := led_small (hL17.same s18) ec18 hSx18
        have h3l : h3.length ≤ 33 := by omega
        have i3l := (List.getElem?_eq_some_iff.mp ec18).1
        refine ⟨_, rfl, x, ex18, _, _, rfl, hSx18, by rw [List.length_take]; omega, by omega, fun H19 b19 => ⟨true, rfl, iteF ?_⟩⟩
        obtain ⟨dx18, _, _, _, _, hx18, _⟩ := hSx18
        exact ⟨_, _, _, _, _, _, _, _, _, _, rfl, ((hP17.same s18).but hx18 b19).mono (by omega)⟩
    · rintro σ H2 ⟨v2, v3, v4, v5, v6, v7, v8, v9, v10, v11, rfl, hP2⟩
      exact k _



end
theorem all_mk {l : PySem.W.OpenLaw} {w : World} {K : PySem.W.Frag} {h : Heap} {mg : Str → Option Value} {fa : Addr} (X : K.In h) (G : h.Ns mainGlobals mg) (hfa : mg "law" = some (.ref fa)) (tabs : ∀ x ∈ ([] : List Str), TabOf K mg h x)
    {f_is_whole : Addr} {od_is_whole an_is_whole : Option Addr} {sl_is_whole : Array (Option Value)} {oc_is_whole kV_is_whole dc_is_whole pm_is_whole cd_is_whole ct_is_whole : Value}
    {f_is_between : Addr} {od_is_between an_is_between : Option Addr} {sl_is_between : Array (Option Value)} {oc_is_between kV_is_between dc_is_between pm_is_between cd_is_between ct_is_between : Value}
    {f_is_name : Addr} {od_is_name an_is_name : Option Addr} {sl_is_name : Array (Option Value)} {oc_is_name kV_is_name dc_is_name pm_is_name cd_is_name ct_is_name : Value}
    {f_need_part : Addr} {od_need_part an_need_part : Option Addr} {sl_need_part : Array (Option Value)} {oc_need_part kV_need_part dc_need_part pm_need_part cd_need_part ct_need_part : Value}
    {f_with_item : Addr} {od_with_item an_with_item : Option Addr} {sl_with_item : Array (Option Value)} {oc_with_item kV_with_item dc_with_item pm_with_item cd_with_item ct_with_item : Value}
    {f_with_row : Addr} {od_with_row an_with_row : Option Addr} {sl_with_row : Array (Option Value)} {oc_with_row kV_with_row dc_with_row pm_with_row cd_with_row ct_with_row : Value}
    {f_pen : Addr} {od_pen an_pen : Option Addr} {sl_pen : Array (Option Value)} {oc_pen kV_pen dc_pen pm_pen cd_pen ct_pen : Value}
    {f_draw : Addr} {od_draw an_draw : Option Addr} {sl_draw : Array (Option Value)} {oc_draw kV_draw dc_draw pm_draw cd_draw ct_draw : Value}
    {f_pick : Addr} {od_pick an_pick : Option Addr} {sl_pick : Array (Option Value)} {oc_pick kV_pick dc_pick pm_pick cd_pick ct_pick : Value}
    {f_name : Addr} {od_name an_name : Option Addr} {sl_name : Array (Option Value)} {oc_name kV_name dc_name pm_name cd_name ct_name : Value}
    {f_state : Addr} {od_state an_state : Option Addr} {sl_state : Array (Option Value)} {oc_state kV_state dc_state pm_state cd_state ct_state : Value}
    {f_with : Addr} {od_with an_with : Option Addr} {sl_with : Array (Option Value)} {oc_with kV_with dc_with pm_with cd_with ct_with : Value}
    {f_row : Addr} {od_row an_row : Option Addr} {sl_row : Array (Option Value)} {oc_row kV_row dc_row pm_row cd_row ct_row : Value}
    {f_deed : Addr} {od_deed an_deed : Option Addr} {sl_deed : Array (Option Value)} {oc_deed kV_deed dc_deed pm_deed cd_deed ct_deed : Value}
    {f_step : Addr} {od_step an_step : Option Addr} {sl_step : Array (Option Value)} {oc_step kV_step dc_step pm_step cd_step ct_step : Value}
    {f_stands : Addr} {od_stands an_stands : Option Addr} {sl_stands : Array (Option Value)} {oc_stands kV_stands dc_stands pm_stands cd_stands ct_stands : Value}
    {f_led : Addr} {od_led an_led : Option Addr} {sl_led : Array (Option Value)} {oc_led kV_led dc_led pm_led cd_led ct_led : Value}
    {f_walked : Addr} {od_walked an_walked : Option Addr} {sl_walked : Array (Option Value)} {oc_walked kV_walked dc_walked pm_walked cd_walked ct_walked : Value}
    {f_same_right : Addr} {od_same_right an_same_right : Option Addr} {sl_same_right : Array (Option Value)} {oc_same_right kV_same_right dc_same_right pm_same_right cd_same_right ct_same_right : Value}
    {f_law : Addr} {od_law an_law : Option Addr} {sl_law : Array (Option Value)} {oc_law kV_law dc_law pm_law cd_law ct_law : Value}
    {f_BadWheel_init : Addr} {od_BadWheel_init an_BadWheel_init : Option Addr} {sl_BadWheel_init : Array (Option Value)} {oc_BadWheel_init kV_BadWheel_init dc_BadWheel_init pm_BadWheel_init cd_BadWheel_init ct_BadWheel_init : Value}
    {f_BadShelf_init : Addr} {od_BadShelf_init an_BadShelf_init : Option Addr} {sl_BadShelf_init : Array (Option Value)} {oc_BadShelf_init kV_BadShelf_init dc_BadShelf_init pm_BadShelf_init cd_BadShelf_init ct_BadShelf_init : Value}
    {f_BadDeed_init : Addr} {od_BadDeed_init an_BadDeed_init : Option Addr} {sl_BadDeed_init : Array (Option Value)} {oc_BadDeed_init kV_BadDeed_init dc_BadDeed_init pm_BadDeed_init cd_BadDeed_init ct_BadDeed_init : Value}
    {f_NoName_init : Addr} {od_NoName_init an_NoName_init : Option Addr} {sl_NoName_init : Array (Option Value)} {oc_NoName_init kV_NoName_init dc_NoName_init pm_NoName_init cd_NoName_init ct_NoName_init : Value}
    {f_TooMany_init : Addr} {od_TooMany_init an_TooMany_init : Option Addr} {sl_TooMany_init : Array (Option Value)} {oc_TooMany_init kV_TooMany_init dc_TooMany_init pm_TooMany_init cd_TooMany_init ct_TooMany_init : Value}
    {f_Wheel_init : Addr} {od_Wheel_init an_Wheel_init : Option Addr} {sl_Wheel_init : Array (Option Value)} {oc_Wheel_init kV_Wheel_init dc_Wheel_init pm_Wheel_init cd_Wheel_init ct_Wheel_init : Value}
    {f_Wheel_str : Addr} {od_Wheel_str an_Wheel_str : Option Addr} {sl_Wheel_str : Array (Option Value)} {oc_Wheel_str kV_Wheel_str dc_Wheel_str pm_Wheel_str cd_Wheel_str ct_Wheel_str : Value}
    {f_Exact_init : Addr} {od_Exact_init an_Exact_init : Option Addr} {sl_Exact_init : Array (Option Value)} {oc_Exact_init kV_Exact_init dc_Exact_init pm_Exact_init ct_Exact_init : Value}
    {ca_Exact_init cc_Exact_init : Addr} {e_Exact_init g1_Exact_init : Value} {dd_Exact_init g2_Exact_init : Option Addr} {vs_Exact_init : Array Value} {sl2_Exact_init g3_Exact_init : Array (Option Value)} {tf_Exact_init : Tok} {cdD_Exact_init : ClassData}
    {f_Grid_init : Addr} {od_Grid_init an_Grid_init : Option Addr} {sl_Grid_init : Array (Option Value)} {oc_Grid_init kV_Grid_init dc_Grid_init pm_Grid_init ct_Grid_init : Value}
    {ca_Grid_init cc_Grid_init : Addr} {e_Grid_init g1_Grid_init : Value} {dd_Grid_init g2_Grid_init : Option Addr} {vs_Grid_init : Array Value} {sl2_Grid_init g3_Grid_init : Array (Option Value)} {tf_Grid_init : Tok} {cdD_Grid_init : ClassData}
    {f_Shelf_init : Addr} {od_Shelf_init an_Shelf_init : Option Addr} {sl_Shelf_init : Array (Option Value)} {oc_Shelf_init kV_Shelf_init dc_Shelf_init pm_Shelf_init cd_Shelf_init ct_Shelf_init : Value}
    {f_Shelf_can_undo : Addr} {od_Shelf_can_undo an_Shelf_can_undo : Option Addr} {sl_Shelf_can_undo : Array (Option Value)} {oc_Shelf_can_undo kV_Shelf_can_undo dc_Shelf_can_undo pm_Shelf_can_undo cd_Shelf_can_undo ct_Shelf_can_undo : Value}
    {p_Shelf_can_undo : Addr} {rest_Shelf_can_undo : List Value}
    {f_Shelf_can_redo : Addr} {od_Shelf_can_redo an_Shelf_can_redo : Option Addr} {sl_Shelf_can_redo : Array (Option Value)} {oc_Shelf_can_redo kV_Shelf_can_redo dc_Shelf_can_redo pm_Shelf_can_redo cd_Shelf_can_redo ct_Shelf_can_redo : Value}
    {p_Shelf_can_redo : Addr} {rest_Shelf_can_redo : List Value}
    {f_Shelf_len : Addr} {od_Shelf_len an_Shelf_len : Option Addr} {sl_Shelf_len : Array (Option Value)} {oc_Shelf_len kV_Shelf_len dc_Shelf_len pm_Shelf_len cd_Shelf_len ct_Shelf_len : Value}
    {f_Shelf_iter : Addr} {od_Shelf_iter an_Shelf_iter : Option Addr} {sl_Shelf_iter : Array (Option Value)} {oc_Shelf_iter kV_Shelf_iter dc_Shelf_iter pm_Shelf_iter cd_Shelf_iter ct_Shelf_iter : Value}
    {f_Shelf_contains : Addr} {od_Shelf_contains an_Shelf_contains : Option Addr} {sl_Shelf_contains : Array (Option Value)} {oc_Shelf_contains kV_Shelf_contains dc_Shelf_contains pm_Shelf_contains cd_Shelf_contains ct_Shelf_contains : Value}
    {f_Shelf_getitem : Addr} {od_Shelf_getitem an_Shelf_getitem : Option Addr} {sl_Shelf_getitem : Array (Option Value)} {oc_Shelf_getitem kV_Shelf_getitem dc_Shelf_getitem pm_Shelf_getitem cd_Shelf_getitem ct_Shelf_getitem : Value}
    {f_Shelf_setitem : Addr} {od_Shelf_setitem an_Shelf_setitem : Option Addr} {sl_Shelf_setitem : Array (Option Value)} {oc_Shelf_setitem kV_Shelf_setitem dc_Shelf_setitem pm_Shelf_setitem cd_Shelf_setitem ct_Shelf_setitem : Value}
    {f_Shelf_drop : Addr} {od_Shelf_drop an_Shelf_drop : Option Addr} {sl_Shelf_drop : Array (Option Value)} {oc_Shelf_drop kV_Shelf_drop dc_Shelf_drop pm_Shelf_drop cd_Shelf_drop ct_Shelf_drop : Value}
    {f_Shelf_stock : Addr} {od_Shelf_stock an_Shelf_stock : Option Addr} {sl_Shelf_stock : Array (Option Value)} {oc_Shelf_stock kV_Shelf_stock dc_Shelf_stock pm_Shelf_stock cd_Shelf_stock ct_Shelf_stock : Value}
    {f_Shelf_done : Addr} {od_Shelf_done an_Shelf_done : Option Addr} {sl_Shelf_done : Array (Option Value)} {oc_Shelf_done kV_Shelf_done dc_Shelf_done pm_Shelf_done cd_Shelf_done ct_Shelf_done : Value}
    {f_Shelf_hold : Addr} {od_Shelf_hold an_Shelf_hold : Option Addr} {sl_Shelf_hold : Array (Option Value)} {oc_Shelf_hold kV_Shelf_hold dc_Shelf_hold pm_Shelf_hold cd_Shelf_hold ct_Shelf_hold : Value}
    {f_Shelf_undo : Addr} {od_Shelf_undo an_Shelf_undo : Option Addr} {sl_Shelf_undo : Array (Option Value)} {oc_Shelf_undo kV_Shelf_undo dc_Shelf_undo pm_Shelf_undo cd_Shelf_undo ct_Shelf_undo : Value}
    {f_Shelf_redo : Addr} {od_Shelf_redo an_Shelf_redo : Option Addr} {sl_Shelf_redo : Array (Option Value)} {oc_Shelf_redo kV_Shelf_redo dc_Shelf_redo pm_Shelf_redo cd_Shelf_redo ct_Shelf_redo : Value}
    {f_Shelf_twin : Addr} {od_Shelf_twin an_Shelf_twin : Option Addr} {sl_Shelf_twin : Array (Option Value)} {oc_Shelf_twin kV_Shelf_twin dc_Shelf_twin pm_Shelf_twin cd_Shelf_twin ct_Shelf_twin : Value}
    {C_ReachError C_Shelf C_Wheel C_Exact C_Grid C_BadWheel C_BadShelf C_BadDeed C_TooMany : Addr} {tM tL tN tQ : Tok}
    {nmBadWheel qbBadWheel : Str} {NbBadWheel : Addr} {bsBadWheel bmBadWheel : List Value} {snBadWheel : List Str} {suBadWheel : List Value} {abBadWheel : Bool} {coBadWheel : Option Bool} {ddBadWheel : Option Addr} {m0BadWheel m1BadWheel m2BadWheel m3BadWheel m5BadWheel : Option Value}
    {nmBadShelf qbBadShelf : Str} {NbBadShelf : Addr} {bsBadShelf bmBadShelf : List Value} {snBadShelf : List Str} {suBadShelf : List Value} {abBadShelf : Bool} {coBadShelf : Option Bool} {ddBadShelf : Option Addr} {m0BadShelf m1BadShelf m2BadShelf m3BadShelf m5BadShelf : Option Value}
    {nmBadDeed qbBadDeed : Str} {NbBadDeed : Addr} {bsBadDeed bmBadDeed : List Value} {snBadDeed : List Str} {suBadDeed : List Value} {abBadDeed : Bool} {coBadDeed : Option Bool} {ddBadDeed : Option Addr} {m0BadDeed m1BadDeed m2BadDeed m3BadDeed m5BadDeed : Option Value}
    {nmTooMany qbTooMany : Str} {NbTooMany : Addr} {bsTooMany bmTooMany : List Value} {snTooMany : List Str} {suTooMany : List Value} {abTooMany : Bool} {coTooMany : Option Bool} {ddTooMany : Option Addr} {m0TooMany m1TooMany m2TooMany m3TooMany m5TooMany : Option Value}
    {C_NoName C_Nothing : Addr}
    {nmNoName qbNoName : Str} {NbNoName : Addr} {bsNoName bmNoName : List Value} {snNoName : List Str} {suNoName : List Value} {abNoName : Bool} {coNoName : Option Bool} {ddNoName : Option Addr} {m0NoName m1NoName m2NoName m3NoName m5NoName : Option Value}
    (a_is_whole : PySem.W.nsIn K mainGlobals "is_whole" = some (some (.ref f_is_whole)))
    (l_is_whole : K.lookup f_is_whole = some ⟨oc_is_whole, od_is_whole, .func (PySem.W.fnOf "is_whole" "is_whole" (defArgs s_is_whole) (defBody s_is_whole) (defScope s_is_whole) .none kV_is_whole dc_is_whole pm_is_whole an_is_whole cd_is_whole ct_is_whole), sl_is_whole⟩)
    (c_is_whole : PySem.W.codeIn K cd_is_whole "is_whole" = true)
    (k_is_whole : PySem.W.keepIn K (.ref f_is_whole) = true)
    (a_is_between : PySem.W.nsIn K mainGlobals "is_between" = some (some (.ref f_is_between)))
    (l_is_between : K.lookup f_is_between = some ⟨oc_is_between, od_is_between, .func (PySem.W.fnOf "is_between" "is_between" (defArgs s_is_between) (defBody s_is_between) (defScope s_is_between) .none kV_is_between dc_is_between pm_is_between an_is_between cd_is_between ct_is_between), sl_is_between⟩)
    (c_is_between : PySem.W.codeIn K cd_is_between "is_between" = true)
    (k_is_between : PySem.W.keepIn K (.ref f_is_between) = true)
    (a_is_name : PySem.W.nsIn K mainGlobals "is_name" = some (some (.ref f_is_name)))
    (l_is_name : K.lookup f_is_name = some ⟨oc_is_name, od_is_name, .func (PySem.W.fnOf "is_name" "is_name" (defArgs s_is_name) (defBody s_is_name) (defScope s_is_name) .none kV_is_name dc_is_name pm_is_name an_is_name cd_is_name ct_is_name), sl_is_name⟩)
    (c_is_name : PySem.W.codeIn K cd_is_name "is_name" = true)
    (k_is_name : PySem.W.keepIn K (.ref f_is_name) = true)
    (a_need_part : PySem.W.nsIn K mainGlobals "need_part" = some (some (.ref f_need_part)))
    (l_need_part : K.lookup f_need_part = some ⟨oc_need_part, od_need_part, .func (PySem.W.fnOf "need_part" "need_part" (defArgs s_need_part) (defBody s_need_part) (defScope s_need_part) .none kV_need_part dc_need_part pm_need_part an_need_part cd_need_part ct_need_part), sl_need_part⟩)
    (c_need_part : PySem.W.codeIn K cd_need_part "need_part" = true)
    (k_need_part : PySem.W.keepIn K (.ref f_need_part) = true)
    (a_with_item : PySem.W.nsIn K mainGlobals "with_item" = some (some (.ref f_with_item)))
    (l_with_item : K.lookup f_with_item = some ⟨oc_with_item, od_with_item, .func (PySem.W.fnOf "with_item" "with_item" (defArgs s_with_item) (defBody s_with_item) (defScope s_with_item) .none kV_with_item dc_with_item pm_with_item an_with_item cd_with_item ct_with_item), sl_with_item⟩)
    (c_with_item : PySem.W.codeIn K cd_with_item "with_item" = true)
    (k_with_item : PySem.W.keepIn K (.ref f_with_item) = true)
    (a_with_row : PySem.W.nsIn K mainGlobals "with_row" = some (some (.ref f_with_row)))
    (l_with_row : K.lookup f_with_row = some ⟨oc_with_row, od_with_row, .func (PySem.W.fnOf "with_row" "with_row" (defArgs s_with_row) (defBody s_with_row) (defScope s_with_row) .none kV_with_row dc_with_row pm_with_row an_with_row cd_with_row ct_with_row), sl_with_row⟩)
    (c_with_row : PySem.W.codeIn K cd_with_row "with_row" = true)
    (k_with_row : PySem.W.keepIn K (.ref f_with_row) = true)
    (a_pen : PySem.W.nsIn K mainGlobals "_law_pen" = some (some (.ref f_pen)))
    (l_pen : K.lookup f_pen = some ⟨oc_pen, od_pen, .func (PySem.W.fnOf "_law_pen" "_law_pen" (defArgs s_pen) (defBody s_pen) (defScope s_pen) .none kV_pen dc_pen pm_pen an_pen cd_pen ct_pen), sl_pen⟩)
    (c_pen : PySem.W.codeIn K cd_pen "_law_pen" = true)
    (k_pen : PySem.W.keepIn K (.ref f_pen) = true)
    (a_draw : PySem.W.nsIn K mainGlobals "_law_draw" = some (some (.ref f_draw)))
    (l_draw : K.lookup f_draw = some ⟨oc_draw, od_draw, .func (PySem.W.fnOf "_law_draw" "_law_draw" (defArgs s_draw) (defBody s_draw) (defScope s_draw) .none kV_draw dc_draw pm_draw an_draw cd_draw ct_draw), sl_draw⟩)
    (c_draw : PySem.W.codeIn K cd_draw "_law_draw" = true)
    (k_draw : PySem.W.keepIn K (.ref f_draw) = true)
    (a_pick : PySem.W.nsIn K mainGlobals "_law_pick" = some (some (.ref f_pick)))
    (l_pick : K.lookup f_pick = some ⟨oc_pick, od_pick, .func (PySem.W.fnOf "_law_pick" "_law_pick" (defArgs s_pick) (defBody s_pick) (defScope s_pick) .none kV_pick dc_pick pm_pick an_pick cd_pick ct_pick), sl_pick⟩)
    (c_pick : PySem.W.codeIn K cd_pick "_law_pick" = true)
    (k_pick : PySem.W.keepIn K (.ref f_pick) = true)
    (a_name : PySem.W.nsIn K mainGlobals "_law_name" = some (some (.ref f_name)))
    (l_name : K.lookup f_name = some ⟨oc_name, od_name, .func (PySem.W.fnOf "_law_name" "_law_name" (defArgs s_name) (defBody s_name) (defScope s_name) .none kV_name dc_name pm_name an_name cd_name ct_name), sl_name⟩)
    (c_name : PySem.W.codeIn K cd_name "_law_name" = true)
    (k_name : PySem.W.keepIn K (.ref f_name) = true)
    (a_state : PySem.W.nsIn K mainGlobals "_law_state" = some (some (.ref f_state)))
    (l_state : K.lookup f_state = some ⟨oc_state, od_state, .func (PySem.W.fnOf "_law_state" "_law_state" (defArgs s_state) (defBody s_state) (defScope s_state) .none kV_state dc_state pm_state an_state cd_state ct_state), sl_state⟩)
    (c_state : PySem.W.codeIn K cd_state "_law_state" = true)
    (k_state : PySem.W.keepIn K (.ref f_state) = true)
    (a_with : PySem.W.nsIn K mainGlobals "_law_with" = some (some (.ref f_with)))
    (l_with : K.lookup f_with = some ⟨oc_with, od_with, .func (PySem.W.fnOf "_law_with" "_law_with" (defArgs s_with) (defBody s_with) (defScope s_with) .none kV_with dc_with pm_with an_with cd_with ct_with), sl_with⟩)
    (c_with : PySem.W.codeIn K cd_with "_law_with" = true)
    (k_with : PySem.W.keepIn K (.ref f_with) = true)
    (a_row : PySem.W.nsIn K mainGlobals "_law_row" = some (some (.ref f_row)))
    (l_row : K.lookup f_row = some ⟨oc_row, od_row, .func (PySem.W.fnOf "_law_row" "_law_row" (defArgs s_row) (defBody s_row) (defScope s_row) .none kV_row dc_row pm_row an_row cd_row ct_row), sl_row⟩)
    (c_row : PySem.W.codeIn K cd_row "_law_row" = true)
    (k_row : PySem.W.keepIn K (.ref f_row) = true)
    (a_deed : PySem.W.nsIn K mainGlobals "_law_deed" = some (some (.ref f_deed)))
    (l_deed : K.lookup f_deed = some ⟨oc_deed, od_deed, .func (PySem.W.fnOf "_law_deed" "_law_deed" (defArgs s_deed) (defBody s_deed) (defScope s_deed) .none kV_deed dc_deed pm_deed an_deed cd_deed ct_deed), sl_deed⟩)
    (c_deed : PySem.W.codeIn K cd_deed "_law_deed" = true)
    (k_deed : PySem.W.keepIn K (.ref f_deed) = true)
    (a_step : PySem.W.nsIn K mainGlobals "_law_step" = some (some (.ref f_step)))
    (l_step : K.lookup f_step = some ⟨oc_step, od_step, .func (PySem.W.fnOf "_law_step" "_law_step" (defArgs s_step) (defBody s_step) (defScope s_step) .none kV_step dc_step pm_step an_step cd_step ct_step), sl_step⟩)
    (c_step : PySem.W.codeIn K cd_step "_law_step" = true)
    (k_step : PySem.W.keepIn K (.ref f_step) = true)
    (a_stands : PySem.W.nsIn K mainGlobals "_law_stands" = some (some (.ref f_stands)))
    (l_stands : K.lookup f_stands = some ⟨oc_stands, od_stands, .func (PySem.W.fnOf "_law_stands" "_law_stands" (defArgs s_stands) (defBody s_stands) (defScope s_stands) .none kV_stands dc_stands pm_stands an_stands cd_stands ct_stands), sl_stands⟩)
    (c_stands : PySem.W.codeIn K cd_stands "_law_stands" = true)
    (k_stands : PySem.W.keepIn K (.ref f_stands) = true)
    (a_led : PySem.W.nsIn K mainGlobals "_law_led" = some (some (.ref f_led)))
    (l_led : K.lookup f_led = some ⟨oc_led, od_led, .func (PySem.W.fnOf "_law_led" "_law_led" (defArgs s_led) (defBody s_led) (defScope s_led) .none kV_led dc_led pm_led an_led cd_led ct_led), sl_led⟩)
    (c_led : PySem.W.codeIn K cd_led "_law_led" = true)
    (k_led : PySem.W.keepIn K (.ref f_led) = true)
    (a_walked : PySem.W.nsIn K mainGlobals "_law_walked" = some (some (.ref f_walked)))
    (l_walked : K.lookup f_walked = some ⟨oc_walked, od_walked, .func (PySem.W.fnOf "_law_walked" "_law_walked" (defArgs s_walked) (defBody s_walked) (defScope s_walked) .none kV_walked dc_walked pm_walked an_walked cd_walked ct_walked), sl_walked⟩)
    (c_walked : PySem.W.codeIn K cd_walked "_law_walked" = true)
    (k_walked : PySem.W.keepIn K (.ref f_walked) = true)
    (a_same_right : PySem.W.nsIn K mainGlobals "_law_same_right" = some (some (.ref f_same_right)))
    (l_same_right : K.lookup f_same_right = some ⟨oc_same_right, od_same_right, .func (PySem.W.fnOf "_law_same_right" "_law_same_right" (defArgs s_same_right) (defBody s_same_right) (defScope s_same_right) .none kV_same_right dc_same_right pm_same_right an_same_right cd_same_right ct_same_right), sl_same_right⟩)
    (c_same_right : PySem.W.codeIn K cd_same_right "_law_same_right" = true)
    (k_same_right : PySem.W.keepIn K (.ref f_same_right) = true)
    (a_law : PySem.W.nsIn K mainGlobals "law" = some (some (.ref f_law)))
    (l_law : K.lookup f_law = some ⟨oc_law, od_law, .func (PySem.W.fnOf "law" "law" (defArgs s_law) (defBody s_law) (defScope s_law) .none kV_law dc_law pm_law an_law cd_law ct_law), sl_law⟩)
    (c_law : PySem.W.codeIn K cd_law "law" = true)
    (k_law : PySem.W.keepIn K (.ref f_law) = true)
    (a_BadWheel_init : PySem.W.findIn K (.ref C_BadWheel) "__init__" = some (some (.ref f_BadWheel_init)))
    (l_BadWheel_init : K.lookup f_BadWheel_init = some ⟨oc_BadWheel_init, od_BadWheel_init, .func (PySem.W.fnOf "__init__" "BadWheel.__init__" (defArgs s_BadWheel_init) (defBody s_BadWheel_init) (defScope s_BadWheel_init) .none kV_BadWheel_init dc_BadWheel_init pm_BadWheel_init an_BadWheel_init cd_BadWheel_init ct_BadWheel_init), sl_BadWheel_init⟩)
    (c_BadWheel_init : PySem.W.codeIn K cd_BadWheel_init "BadWheel.__init__" = true)
    (k_BadWheel_init : PySem.W.keepIn K (.ref f_BadWheel_init) = true)
    (a_BadShelf_init : PySem.W.findIn K (.ref C_BadShelf) "__init__" = some (some (.ref f_BadShelf_init)))
    (l_BadShelf_init : K.lookup f_BadShelf_init = some ⟨oc_BadShelf_init, od_BadShelf_init, .func (PySem.W.fnOf "__init__" "BadShelf.__init__" (defArgs s_BadShelf_init) (defBody s_BadShelf_init) (defScope s_BadShelf_init) .none kV_BadShelf_init dc_BadShelf_init pm_BadShelf_init an_BadShelf_init cd_BadShelf_init ct_BadShelf_init), sl_BadShelf_init⟩)
    (c_BadShelf_init : PySem.W.codeIn K cd_BadShelf_init "BadShelf.__init__" = true)
    (k_BadShelf_init : PySem.W.keepIn K (.ref f_BadShelf_init) = true)
    (a_BadDeed_init : PySem.W.findIn K (.ref C_BadDeed) "__init__" = some (some (.ref f_BadDeed_init)))
    (l_BadDeed_init : K.lookup f_BadDeed_init = some ⟨oc_BadDeed_init, od_BadDeed_init, .func (PySem.W.fnOf "__init__" "BadDeed.__init__" (defArgs s_BadDeed_init) (defBody s_BadDeed_init) (defScope s_BadDeed_init) .none kV_BadDeed_init dc_BadDeed_init pm_BadDeed_init an_BadDeed_init cd_BadDeed_init ct_BadDeed_init), sl_BadDeed_init⟩)
    (c_BadDeed_init : PySem.W.codeIn K cd_BadDeed_init "BadDeed.__init__" = true)
    (k_BadDeed_init : PySem.W.keepIn K (.ref f_BadDeed_init) = true)
    (a_NoName_init : PySem.W.findIn K (.ref C_NoName) "__init__" = some (some (.ref f_NoName_init)))
    (l_NoName_init : K.lookup f_NoName_init = some ⟨oc_NoName_init, od_NoName_init, .func (PySem.W.fnOf "__init__" "NoName.__init__" (defArgs s_NoName_init) (defBody s_NoName_init) (defScope s_NoName_init) .none kV_NoName_init dc_NoName_init pm_NoName_init an_NoName_init cd_NoName_init ct_NoName_init), sl_NoName_init⟩)
    (c_NoName_init : PySem.W.codeIn K cd_NoName_init "NoName.__init__" = true)
    (k_NoName_init : PySem.W.keepIn K (.ref f_NoName_init) = true)
    (a_TooMany_init : PySem.W.findIn K (.ref C_TooMany) "__init__" = some (some (.ref f_TooMany_init)))
    (l_TooMany_init : K.lookup f_TooMany_init = some ⟨oc_TooMany_init, od_TooMany_init, .func (PySem.W.fnOf "__init__" "TooMany.__init__" (defArgs s_TooMany_init) (defBody s_TooMany_init) (defScope s_TooMany_init) .none kV_TooMany_init dc_TooMany_init pm_TooMany_init an_TooMany_init cd_TooMany_init ct_TooMany_init), sl_TooMany_init⟩)
    (c_TooMany_init : PySem.W.codeIn K cd_TooMany_init "TooMany.__init__" = true)
    (k_TooMany_init : PySem.W.keepIn K (.ref f_TooMany_init) = true)
    (a_Wheel_init : PySem.W.findIn K (.ref C_Wheel) "__init__" = some (some (.ref f_Wheel_init)))
    (l_Wheel_init : K.lookup f_Wheel_init = some ⟨oc_Wheel_init, od_Wheel_init, .func (PySem.W.fnOf "__init__" "Wheel.__init__" (defArgs s_Wheel_init) (defBody s_Wheel_init) (defScope s_Wheel_init) .none kV_Wheel_init dc_Wheel_init pm_Wheel_init an_Wheel_init cd_Wheel_init ct_Wheel_init), sl_Wheel_init⟩)
    (c_Wheel_init : PySem.W.codeIn K cd_Wheel_init "Wheel.__init__" = true)
    (k_Wheel_init : PySem.W.keepIn K (.ref f_Wheel_init) = true)
    (a_Wheel_str : PySem.W.findIn K (.ref C_Wheel) "__str__" = some (some (.ref f_Wheel_str)))
    (l_Wheel_str : K.lookup f_Wheel_str = some ⟨oc_Wheel_str, od_Wheel_str, .func (PySem.W.fnOf "__str__" "Wheel.__str__" (defArgs s_Wheel_str) (defBody s_Wheel_str) (defScope s_Wheel_str) .none kV_Wheel_str dc_Wheel_str pm_Wheel_str an_Wheel_str cd_Wheel_str ct_Wheel_str), sl_Wheel_str⟩)
    (c_Wheel_str : PySem.W.codeIn K cd_Wheel_str "Wheel.__str__" = true)
    (k_Wheel_str : PySem.W.keepIn K (.ref f_Wheel_str) = true)
    (a_Exact_init : PySem.W.findIn K (.ref C_Exact) "__init__" = some (some (.ref f_Exact_init)))
    (l_Exact_init : K.lookup f_Exact_init = some ⟨oc_Exact_init, od_Exact_init, .func (PySem.W.ksFn "__init__" "Exact.__init__" (defArgs s_Exact_init) (defBody s_Exact_init) (defScope s_Exact_init) .none kV_Exact_init dc_Exact_init pm_Exact_init an_Exact_init (.ref ca_Exact_init) ct_Exact_init cc_Exact_init), sl_Exact_init⟩)
    (c_Exact_init : PySem.W.codeIn K (.ref ca_Exact_init) "Exact.__init__" = true)
    (k_Exact_init : PySem.W.keepIn K (.ref f_Exact_init) = true)
    (t_Exact_init : K.lookup ca_Exact_init = some ⟨e_Exact_init, dd_Exact_init, .fields vs_Exact_init, sl2_Exact_init⟩)
    (p_Exact_init : vs_Exact_init[2]? = some (.str lawFile tf_Exact_init))
    (y_Exact_init : K.lookup cc_Exact_init = some ⟨g1_Exact_init, g2_Exact_init, .cell (some (.ref C_Exact)), g3_Exact_init⟩)
    (w_Exact_init : PySem.W.clsIn K C_Exact = some cdD_Exact_init)
    (a_Grid_init : PySem.W.findIn K (.ref C_Grid) "__init__" = some (some (.ref f_Grid_init)))
    (l_Grid_init : K.lookup f_Grid_init = some ⟨oc_Grid_init, od_Grid_init, .func (PySem.W.ksFn "__init__" "Grid.__init__" (defArgs s_Grid_init) (defBody s_Grid_init) (defScope s_Grid_init) .none kV_Grid_init dc_Grid_init pm_Grid_init an_Grid_init (.ref ca_Grid_init) ct_Grid_init cc_Grid_init), sl_Grid_init⟩)
    (c_Grid_init : PySem.W.codeIn K (.ref ca_Grid_init) "Grid.__init__" = true)
    (k_Grid_init : PySem.W.keepIn K (.ref f_Grid_init) = true)
    (t_Grid_init : K.lookup ca_Grid_init = some ⟨e_Grid_init, dd_Grid_init, .fields vs_Grid_init, sl2_Grid_init⟩)
    (p_Grid_init : vs_Grid_init[2]? = some (.str lawFile tf_Grid_init))
    (y_Grid_init : K.lookup cc_Grid_init = some ⟨g1_Grid_init, g2_Grid_init, .cell (some (.ref C_Grid)), g3_Grid_init⟩)
    (w_Grid_init : PySem.W.clsIn K C_Grid = some cdD_Grid_init)
    (a_Shelf_init : PySem.W.findIn K (.ref C_Shelf) "__init__" = some (some (.ref f_Shelf_init)))
    (l_Shelf_init : K.lookup f_Shelf_init = some ⟨oc_Shelf_init, od_Shelf_init, .func (PySem.W.fnOf "__init__" "Shelf.__init__" (defArgs s_Shelf_init) (defBody s_Shelf_init) (defScope s_Shelf_init) .none kV_Shelf_init dc_Shelf_init pm_Shelf_init an_Shelf_init cd_Shelf_init ct_Shelf_init), sl_Shelf_init⟩)
    (c_Shelf_init : PySem.W.codeIn K cd_Shelf_init "Shelf.__init__" = true)
    (k_Shelf_init : PySem.W.keepIn K (.ref f_Shelf_init) = true)
    (a_Shelf_can_undo : PySem.W.findIn K (.ref C_Shelf) "can_undo" = some (some (.ref p_Shelf_can_undo)))
    (r_Shelf_can_undo : PySem.W.recIn K p_Shelf_can_undo "property" = some (.ref f_Shelf_can_undo :: rest_Shelf_can_undo))
    (l_Shelf_can_undo : K.lookup f_Shelf_can_undo = some ⟨oc_Shelf_can_undo, od_Shelf_can_undo, .func (PySem.W.fnOf "can_undo" "Shelf.can_undo" (defArgs s_Shelf_can_undo) (defBody s_Shelf_can_undo) (defScope s_Shelf_can_undo) .none kV_Shelf_can_undo dc_Shelf_can_undo pm_Shelf_can_undo an_Shelf_can_undo cd_Shelf_can_undo ct_Shelf_can_undo), sl_Shelf_can_undo⟩)
    (c_Shelf_can_undo : PySem.W.codeIn K cd_Shelf_can_undo "Shelf.can_undo" = true)
    (k_Shelf_can_undo : PySem.W.keepIn K (.ref f_Shelf_can_undo) = true)
    (a_Shelf_can_redo : PySem.W.findIn K (.ref C_Shelf) "can_redo" = some (some (.ref p_Shelf_can_redo)))
    (r_Shelf_can_redo : PySem.W.recIn K p_Shelf_can_redo "property" = some (.ref f_Shelf_can_redo :: rest_Shelf_can_redo))
    (l_Shelf_can_redo : K.lookup f_Shelf_can_redo = some ⟨oc_Shelf_can_redo, od_Shelf_can_redo, .func (PySem.W.fnOf "can_redo" "Shelf.can_redo" (defArgs s_Shelf_can_redo) (defBody s_Shelf_can_redo) (defScope s_Shelf_can_redo) .none kV_Shelf_can_redo dc_Shelf_can_redo pm_Shelf_can_redo an_Shelf_can_redo cd_Shelf_can_redo ct_Shelf_can_redo), sl_Shelf_can_redo⟩)
    (c_Shelf_can_redo : PySem.W.codeIn K cd_Shelf_can_redo "Shelf.can_redo" = true)
    (k_Shelf_can_redo : PySem.W.keepIn K (.ref f_Shelf_can_redo) = true)
    (a_Shelf_len : PySem.W.findIn K (.ref C_Shelf) "__len__" = some (some (.ref f_Shelf_len)))
    (l_Shelf_len : K.lookup f_Shelf_len = some ⟨oc_Shelf_len, od_Shelf_len, .func (PySem.W.fnOf "__len__" "Shelf.__len__" (defArgs s_Shelf_len) (defBody s_Shelf_len) (defScope s_Shelf_len) .none kV_Shelf_len dc_Shelf_len pm_Shelf_len an_Shelf_len cd_Shelf_len ct_Shelf_len), sl_Shelf_len⟩)
    (c_Shelf_len : PySem.W.codeIn K cd_Shelf_len "Shelf.__len__" = true)
    (k_Shelf_len : PySem.W.keepIn K (.ref f_Shelf_len) = true)
    (a_Shelf_iter : PySem.W.findIn K (.ref C_Shelf) "__iter__" = some (some (.ref f_Shelf_iter)))
    (l_Shelf_iter : K.lookup f_Shelf_iter = some ⟨oc_Shelf_iter, od_Shelf_iter, .func (PySem.W.fnOf "__iter__" "Shelf.__iter__" (defArgs s_Shelf_iter) (defBody s_Shelf_iter) (defScope s_Shelf_iter) .none kV_Shelf_iter dc_Shelf_iter pm_Shelf_iter an_Shelf_iter cd_Shelf_iter ct_Shelf_iter), sl_Shelf_iter⟩)
    (c_Shelf_iter : PySem.W.codeIn K cd_Shelf_iter "Shelf.__iter__" = true)
    (k_Shelf_iter : PySem.W.keepIn K (.ref f_Shelf_iter) = true)
    (a_Shelf_contains : PySem.W.findIn K (.ref C_Shelf) "__contains__" = some (some (.ref f_Shelf_contains)))
    (l_Shelf_contains : K.lookup f_Shelf_contains = some ⟨oc_Shelf_contains, od_Shelf_contains, .func (PySem.W.fnOf "__contains__" "Shelf.__contains__" (defArgs s_Shelf_contains) (defBody s_Shelf_contains) (defScope s_Shelf_contains) .none kV_Shelf_contains dc_Shelf_contains pm_Shelf_contains an_Shelf_contains cd_Shelf_contains ct_Shelf_contains), sl_Shelf_contains⟩)
    (c_Shelf_contains : PySem.W.codeIn K cd_Shelf_contains "Shelf.__contains__" = true)
    (k_Shelf_contains : PySem.W.keepIn K (.ref f_Shelf_contains) = true)
    (a_Shelf_getitem : PySem.W.findIn K (.ref C_Shelf) "__getitem__" = some (some (.ref f_Shelf_getitem)))
    (l_Shelf_getitem : K.lookup f_Shelf_getitem = some ⟨oc_Shelf_getitem, od_Shelf_getitem, .func (PySem.W.fnOf "__getitem__" "Shelf.__getitem__" (defArgs s_Shelf_getitem) (defBody s_Shelf_getitem) (defScope s_Shelf_getitem) .none kV_Shelf_getitem dc_Shelf_getitem pm_Shelf_getitem an_Shelf_getitem cd_Shelf_getitem ct_Shelf_getitem), sl_Shelf_getitem⟩)
    (c_Shelf_getitem : PySem.W.codeIn K cd_Shelf_getitem "Shelf.__getitem__" = true)
    (k_Shelf_getitem : PySem.W.keepIn K (.ref f_Shelf_getitem) = true)
    (a_Shelf_setitem : PySem.W.findIn K (.ref C_Shelf) "__setitem__" = some (some (.ref f_Shelf_setitem)))
    (l_Shelf_setitem : K.lookup f_Shelf_setitem = some ⟨oc_Shelf_setitem, od_Shelf_setitem, .func (PySem.W.fnOf "__setitem__" "Shelf.__setitem__" (defArgs s_Shelf_setitem) (defBody s_Shelf_setitem) (defScope s_Shelf_setitem) .none kV_Shelf_setitem dc_Shelf_setitem pm_Shelf_setitem an_Shelf_setitem cd_Shelf_setitem ct_Shelf_setitem), sl_Shelf_setitem⟩)
    (c_Shelf_setitem : PySem.W.codeIn K cd_Shelf_setitem "Shelf.__setitem__" = true)
    (k_Shelf_setitem : PySem.W.keepIn K (.ref f_Shelf_setitem) = true)
    (a_Shelf_drop : PySem.W.findIn K (.ref C_Shelf) "drop" = some (some (.ref f_Shelf_drop)))
    (l_Shelf_drop : K.lookup f_Shelf_drop = some ⟨oc_Shelf_drop, od_Shelf_drop, .func (PySem.W.fnOf "drop" "Shelf.drop" (defArgs s_Shelf_drop) (defBody s_Shelf_drop) (defScope s_Shelf_drop) .none kV_Shelf_drop dc_Shelf_drop pm_Shelf_drop an_Shelf_drop cd_Shelf_drop ct_Shelf_drop), sl_Shelf_drop⟩)
    (c_Shelf_drop : PySem.W.codeIn K cd_Shelf_drop "Shelf.drop" = true)
    (k_Shelf_drop : PySem.W.keepIn K (.ref f_Shelf_drop) = true)
    (a_Shelf_stock : PySem.W.findIn K (.ref C_Shelf) "stock" = some (some (.ref f_Shelf_stock)))
    (l_Shelf_stock : K.lookup f_Shelf_stock = some ⟨oc_Shelf_stock, od_Shelf_stock, .func (PySem.W.fnOf "stock" "Shelf.stock" (defArgs s_Shelf_stock) (defBody s_Shelf_stock) (defScope s_Shelf_stock) .none kV_Shelf_stock dc_Shelf_stock pm_Shelf_stock an_Shelf_stock cd_Shelf_stock ct_Shelf_stock), sl_Shelf_stock⟩)
    (c_Shelf_stock : PySem.W.codeIn K cd_Shelf_stock "Shelf.stock" = true)
    (k_Shelf_stock : PySem.W.keepIn K (.ref f_Shelf_stock) = true)
    (a_Shelf_done : PySem.W.findIn K (.ref C_Shelf) "_done" = some (some (.ref f_Shelf_done)))
    (l_Shelf_done : K.lookup f_Shelf_done = some ⟨oc_Shelf_done, od_Shelf_done, .func (PySem.W.fnOf "_done" "Shelf._done" (defArgs s_Shelf_done) (defBody s_Shelf_done) (defScope s_Shelf_done) .none kV_Shelf_done dc_Shelf_done pm_Shelf_done an_Shelf_done cd_Shelf_done ct_Shelf_done), sl_Shelf_done⟩)
    (c_Shelf_done : PySem.W.codeIn K cd_Shelf_done "Shelf._done" = true)
    (k_Shelf_done : PySem.W.keepIn K (.ref f_Shelf_done) = true)
    (a_Shelf_hold : PySem.W.findIn K (.ref C_Shelf) "_hold" = some (some (.ref f_Shelf_hold)))
    (l_Shelf_hold : K.lookup f_Shelf_hold = some ⟨oc_Shelf_hold, od_Shelf_hold, .func (PySem.W.fnOf "_hold" "Shelf._hold" (defArgs s_Shelf_hold) (defBody s_Shelf_hold) (defScope s_Shelf_hold) .none kV_Shelf_hold dc_Shelf_hold pm_Shelf_hold an_Shelf_hold cd_Shelf_hold ct_Shelf_hold), sl_Shelf_hold⟩)
    (c_Shelf_hold : PySem.W.codeIn K cd_Shelf_hold "Shelf._hold" = true)
    (k_Shelf_hold : PySem.W.keepIn K (.ref f_Shelf_hold) = true)
    (a_Shelf_undo : PySem.W.findIn K (.ref C_Shelf) "undo" = some (some (.ref f_Shelf_undo)))
    (l_Shelf_undo : K.lookup f_Shelf_undo = some ⟨oc_Shelf_undo, od_Shelf_undo, .func (PySem.W.fnOf "undo" "Shelf.undo" (defArgs s_Shelf_undo) (defBody s_Shelf_undo) (defScope s_Shelf_undo) .none kV_Shelf_undo dc_Shelf_undo pm_Shelf_undo an_Shelf_undo cd_Shelf_undo ct_Shelf_undo), sl_Shelf_undo⟩)
    (c_Shelf_undo : PySem.W.codeIn K cd_Shelf_undo "Shelf.undo" = true)
    (k_Shelf_undo : PySem.W.keepIn K (.ref f_Shelf_undo) = true)
    (a_Shelf_redo : PySem.W.findIn K (.ref C_Shelf) "redo" = some (some (.ref f_Shelf_redo)))
    (l_Shelf_redo : K.lookup f_Shelf_redo = some ⟨oc_Shelf_redo, od_Shelf_redo, .func (PySem.W.fnOf "redo" "Shelf.redo" (defArgs s_Shelf_redo) (defBody s_Shelf_redo) (defScope s_Shelf_redo) .none kV_Shelf_redo dc_Shelf_redo pm_Shelf_redo an_Shelf_redo cd_Shelf_redo ct_Shelf_redo), sl_Shelf_redo⟩)
    (c_Shelf_redo : PySem.W.codeIn K cd_Shelf_redo "Shelf.redo" = true)
    (k_Shelf_redo : PySem.W.keepIn K (.ref f_Shelf_redo) = true)
    (a_Shelf_twin : PySem.W.findIn K (.ref C_Shelf) "twin" = some (some (.ref f_Shelf_twin)))
    (l_Shelf_twin : K.lookup f_Shelf_twin = some ⟨oc_Shelf_twin, od_Shelf_twin, .func (PySem.W.fnOf "twin" "Shelf.twin" (defArgs s_Shelf_twin) (defBody s_Shelf_twin) (defScope s_Shelf_twin) .none kV_Shelf_twin dc_Shelf_twin pm_Shelf_twin an_Shelf_twin cd_Shelf_twin ct_Shelf_twin), sl_Shelf_twin⟩)
    (c_Shelf_twin : PySem.W.codeIn K cd_Shelf_twin "Shelf.twin" = true)
    (k_Shelf_twin : PySem.W.keepIn K (.ref f_Shelf_twin) = true)
    (z_ValueError : PySem.W.nsIn K mainGlobals "ValueError" = some none)
    (z_abs : PySem.W.nsIn K mainGlobals "abs" = some none)
    (z_bool : PySem.W.nsIn K mainGlobals "bool" = some none)
    (z_enumerate : PySem.W.nsIn K mainGlobals "enumerate" = some none)
    (z_int : PySem.W.nsIn K mainGlobals "int" = some none)
    (z_isinstance : PySem.W.nsIn K mainGlobals "isinstance" = some none)
    (z_iter : PySem.W.nsIn K mainGlobals "iter" = some none)
    (z_len : PySem.W.nsIn K mainGlobals "len" = some none)
    (z_list : PySem.W.nsIn K mainGlobals "list" = some none)
    (z_property : PySem.W.nsIn K mainGlobals "property" = some none)
    (z_range : PySem.W.nsIn K mainGlobals "range" = some none)
    (z_repr : PySem.W.nsIn K mainGlobals "repr" = some none)
    (z_sorted : PySem.W.nsIn K mainGlobals "sorted" = some none)
    (z_staticmethod : PySem.W.nsIn K mainGlobals "staticmethod" = some none)
    (z_str : PySem.W.nsIn K mainGlobals "str" = some none)
    (z_super : PySem.W.nsIn K mainGlobals "super" = some none)
    (z_tuple : PySem.W.nsIn K mainGlobals "tuple" = some none)
    (x_Nothing : PySem.W.nsIn K mainGlobals "Nothing" = some (some (.ref C_Nothing)))
    (x_NoName : PySem.W.nsIn K mainGlobals "NoName" = some (some (.ref C_NoName)))
    (x_R : PySem.W.nsIn K mainGlobals "ReachError" = some (some (.ref C_ReachError)))
    (x_MP : PySem.W.nsIn K mainGlobals "MOST_PERIOD" = some (some (.int 1000000000000 tM)))
    (x_ML : PySem.W.nsIn K mainGlobals "MOST_LETTERS" = some (some (.int 8 tL)))
    (x_MN : PySem.W.nsIn K mainGlobals "MOST_NAMES" = some (some (.int 8 tN)))
    (x_MQ : PySem.W.nsIn K mainGlobals "MOST_PRICE" = some (some (.int 1000000000000 tQ)))
    (x_Wheel : PySem.W.nsIn K mainGlobals "Wheel" = some (some (.ref C_Wheel)))
    (x_Exact : PySem.W.nsIn K mainGlobals "Exact" = some (some (.ref C_Exact)))
    (x_Grid : PySem.W.nsIn K mainGlobals "Grid" = some (some (.ref C_Grid)))
    (x_Shelf : PySem.W.nsIn K mainGlobals "Shelf" = some (some (.ref C_Shelf)))
    (x_BadWheel : PySem.W.nsIn K mainGlobals "BadWheel" = some (some (.ref C_BadWheel)))
    (x_BadShelf : PySem.W.nsIn K mainGlobals "BadShelf" = some (some (.ref C_BadShelf)))
    (x_BadDeed : PySem.W.nsIn K mainGlobals "BadDeed" = some (some (.ref C_BadDeed)))
    (x_TooMany : PySem.W.nsIn K mainGlobals "TooMany" = some (some (.ref C_TooMany)))
    (x_pf : ((l.prog.main.file : Str) == lawFile) = true)
    (x_pt : (l.prog.main.scope.names.lookup ("super" : Str)).isSome = false)
    (x_any : PySem.W.nsIn K PySem.cStatics "thirdparty.any" = some none)
    (x_sT : PySem.W.typeIn K (.ref f_Wheel_init) = some (.type "function"))
    (x_sF : PySem.W.fnIn K f_Wheel_init = true)
    (x_hn : PySem.W.specialIn K (.builtin "object.__class__") "__get__" = some (some (.builtin "getset_descriptor.__get__")))
    (x_ht : PySem.W.takesIn K (.builtin "object.__class__") = some true)
    (x_Rx : PySem.W.subIn K (.ref C_ReachError) (.type "BaseException") = some true)
    (x_Rh : PySem.W.hasDictIn K C_ReachError = true)
    (x_Rt : PySem.W.typeIn K (.ref C_ReachError) = some (.type "type"))
    (zBadWheel_L : K.lookup C_BadWheel = some (excClassObj nmBadWheel qbBadWheel C_BadWheel NbBadWheel bsBadWheel bmBadWheel true snBadWheel suBadWheel abBadWheel coBadWheel ddBadWheel m0BadWheel m1BadWheel m2BadWheel m3BadWheel m5BadWheel "ValueError.__new__"))
    (zBadWheel_b : PySem.HandSPX.refsVE bmBadWheel = true)
    (zBadWheel_sa : PySem.W.findIn K (.ref C_BadWheel) "__setattr__" = some (some (.builtin "object.__setattr__")))
    (zBadWheel_ex : PySem.W.subIn K (.ref C_BadWheel) (.type "BaseException") = some true)
    (zBadWheel_ty : PySem.W.typeIn K (.ref C_BadWheel) = some (.type "type"))
    (zBadWheel_k : PySem.W.keepIn K (.ref C_BadWheel) = true)
    (zBadWheel_tI : PySem.W.typeIn K (.ref f_BadWheel_init) = some (.type "function"))
    (zBadWheel_no0 : PySem.W.findIn K (.ref C_BadWheel) "part" = some Option.none)
    (zBadShelf_L : K.lookup C_BadShelf = some (excClassObj nmBadShelf qbBadShelf C_BadShelf NbBadShelf bsBadShelf bmBadShelf true snBadShelf suBadShelf abBadShelf coBadShelf ddBadShelf m0BadShelf m1BadShelf m2BadShelf m3BadShelf m5BadShelf "ValueError.__new__"))
    (zBadShelf_b : PySem.HandSPX.refsVE bmBadShelf = true)
    (zBadShelf_sa : PySem.W.findIn K (.ref C_BadShelf) "__setattr__" = some (some (.builtin "object.__setattr__")))
    (zBadShelf_ex : PySem.W.subIn K (.ref C_BadShelf) (.type "BaseException") = some true)
    (zBadShelf_ty : PySem.W.typeIn K (.ref C_BadShelf) = some (.type "type"))
    (zBadShelf_k : PySem.W.keepIn K (.ref C_BadShelf) = true)
    (zBadShelf_tI : PySem.W.typeIn K (.ref f_BadShelf_init) = some (.type "function"))
    (zBadShelf_RC : PySem.W.subIn K (.ref C_BadShelf) (.ref C_ReachError) = some true)
    (zBadShelf_no0 : PySem.W.findIn K (.ref C_BadShelf) "part" = some Option.none)
    (zBadDeed_L : K.lookup C_BadDeed = some (excClassObj nmBadDeed qbBadDeed C_BadDeed NbBadDeed bsBadDeed bmBadDeed true snBadDeed suBadDeed abBadDeed coBadDeed ddBadDeed m0BadDeed m1BadDeed m2BadDeed m3BadDeed m5BadDeed "ValueError.__new__"))
    (zBadDeed_b : PySem.HandSPX.refsVE bmBadDeed = true)
    (zBadDeed_sa : PySem.W.findIn K (.ref C_BadDeed) "__setattr__" = some (some (.builtin "object.__setattr__")))
    (zBadDeed_ex : PySem.W.subIn K (.ref C_BadDeed) (.type "BaseException") = some true)
    (zBadDeed_ty : PySem.W.typeIn K (.ref C_BadDeed) = some (.type "type"))
    (zBadDeed_k : PySem.W.keepIn K (.ref C_BadDeed) = true)
    (zBadDeed_tI : PySem.W.typeIn K (.ref f_BadDeed_init) = some (.type "function"))
    (zBadDeed_cl : PySem.W.isClsIn K C_BadDeed = true)
    (zBadDeed_ga : PySem.W.findIn K (.ref C_BadDeed) "__getattribute__" = some (some (.builtin "BaseException.__getattribute__")))
    (zBadDeed_gg : PySem.W.findIn K (.ref C_BadDeed) "__getattr__" = some Option.none)
    (zBadDeed_hd : PySem.W.hasDictIn K C_BadDeed = true)
    (zBadDeed_ha : PySem.W.findIn K (.ref C_BadDeed) "__class__" = some (some (.builtin "object.__class__")))
    (zBadDeed_hm : PySem.W.mroIn K C_BadDeed (.type "object") = some true)
    (zBadDeed_self : PySem.W.subIn K (.ref C_BadDeed) (.ref C_BadDeed) = some true)
    (zBadDeed_kR : PySem.W.kitOne K (.ref C_BadDeed) (.ref C_ReachError) = some true)
    (zBadDeed_kV : PySem.W.kitOne K (.ref C_BadDeed) (.type "ValueError") = some true)
    (zBadDeed_kS : PySem.W.kitOne K (.ref C_BadDeed) (.ref C_BadShelf) = some false)
    (zBadDeed_no0 : PySem.W.findIn K (.ref C_BadDeed) "at" = some Option.none)
    (zTooMany_L : K.lookup C_TooMany = some (excClassObj nmTooMany qbTooMany C_TooMany NbTooMany bsTooMany bmTooMany true snTooMany suTooMany abTooMany coTooMany ddTooMany m0TooMany m1TooMany m2TooMany m3TooMany m5TooMany "ValueError.__new__"))
    (zTooMany_b : PySem.HandSPX.refsVE bmTooMany = true)
    (zTooMany_sa : PySem.W.findIn K (.ref C_TooMany) "__setattr__" = some (some (.builtin "object.__setattr__")))
    (zTooMany_ex : PySem.W.subIn K (.ref C_TooMany) (.type "BaseException") = some true)
    (zTooMany_ty : PySem.W.typeIn K (.ref C_TooMany) = some (.type "type"))
    (zTooMany_k : PySem.W.keepIn K (.ref C_TooMany) = true)
    (zTooMany_tI : PySem.W.typeIn K (.ref f_TooMany_init) = some (.type "function"))
    (zTooMany_RC : PySem.W.subIn K (.ref C_TooMany) (.ref C_ReachError) = some true)
    (zTooMany_no0 : PySem.W.findIn K (.ref C_TooMany) "what" = some Option.none)
    (zTooMany_no1 : PySem.W.findIn K (.ref C_TooMany) "most" = some Option.none)
    (y_gfalse : PySem.W.specialIn K (.bool false) "__get__" = some none)
    (y_gtrue : PySem.W.specialIn K (.bool true) "__get__" = some none)
    (y_fstr : PySem.W.isFn K (.ref f_Wheel_str) = true)
    (y_kNoneType : PySem.W.kitOne K (.type "NoneType") (.ref C_Wheel) = some false)
    (y_kstr : PySem.W.kitOne K (.type "str") (.ref C_Wheel) = some false)
    (y_kint : PySem.W.kitOne K (.type "int") (.ref C_Wheel) = some false)
    (y_sn0 : NoAttr K C_Shelf "_items")
    (y_sn1 : NoAttr K C_Shelf "_names")
    (y_sn2 : NoAttr K C_Shelf "_past")
    (y_sn3 : NoAttr K C_Shelf "_ahead")
    (y_scls : Cls K C_Shelf)
    (y_smakes : PySem.W.makesIn K C_Shelf = true)
    (y_sfn : PySem.W.isFn K (.ref f_Shelf_init) = true)
    (y_skp : PySem.W.keepIn K (.ref C_Shelf) = true)
    (y_fdone : PySem.W.isFn K (.ref f_Shelf_done) = true)
    (y_fhold : PySem.W.isFn K (.ref f_Shelf_hold) = true)
    (y_fstock : PySem.W.isFn K (.ref f_Shelf_stock) = true)
    (y_fundo : PySem.W.isFn K (.ref f_Shelf_undo) = true)
    (y_fcontains : PySem.W.isFn K (.ref f_Shelf_contains) = true)
    (y_flen : PySem.W.isFn K (.ref f_Shelf_len) = true)
    (y_fiter : PySem.W.isFn K (.ref f_Shelf_iter) = true)
    (y_fgetitem : PySem.W.isFn K (.ref f_Shelf_getitem) = true)
    (y_pg_can_undo : PySem.W.specialIn K (.ref p_Shelf_can_undo) "__get__" = some (some (.builtin "property.__get__")))
    (y_pt_can_undo : PySem.W.takesIn K (.ref p_Shelf_can_undo) = some true)
    (y_pg_can_redo : PySem.W.specialIn K (.ref p_Shelf_can_redo) "__get__" = some (some (.builtin "property.__get__")))
    (y_pt_can_redo : PySem.W.takesIn K (.ref p_Shelf_can_redo) = some true)
    (yWheel_cls : Cls K C_Wheel)
    (yWheel_n1 : NoAttr K C_Wheel "period")
    (yWheel_n2 : NoAttr K C_Wheel "back")
    (yWheel_n3 : NoAttr K C_Wheel "ahead")
    (yWheel_con : PySem.W.findIn K (.ref C_Wheel) "TRUSTED" = some (some (.bool false)))
    (yWheel_m1 : PySem.W.makesIn K C_Wheel = true)
    (yWheel_m3 : PySem.W.isFn K (.ref f_Wheel_init) = true)
    (yWheel_m4 : PySem.W.keepIn K (.ref C_Wheel) = true)
    (yWheel_str : PySem.W.findIn K (.ref C_Wheel) "__str__" = some (some (.ref f_Wheel_str)))
    (yWheel_ha : PySem.W.findIn K (.ref C_Wheel) "__class__" = some (some (.builtin "object.__class__")))
    (yWheel_hm : PySem.W.mroIn K C_Wheel (.type "object") = some true)
    (yWheel_kW : PySem.W.kitOne K (.ref C_Wheel) (.ref C_Wheel) = some true)
    (yExact_cls : Cls K C_Exact)
    (yExact_n1 : NoAttr K C_Exact "period")
    (yExact_n2 : NoAttr K C_Exact "back")
    (yExact_n3 : NoAttr K C_Exact "ahead")
    (yExact_con : PySem.W.findIn K (.ref C_Exact) "TRUSTED" = some (some (.bool false)))
    (yExact_m1 : PySem.W.makesIn K C_Exact = true)
    (yExact_m3 : PySem.W.isFn K (.ref f_Exact_init) = true)
    (yExact_m4 : PySem.W.keepIn K (.ref C_Exact) = true)
    (yExact_str : PySem.W.findIn K (.ref C_Exact) "__str__" = some (some (.ref f_Wheel_str)))
    (yExact_ha : PySem.W.findIn K (.ref C_Exact) "__class__" = some (some (.builtin "object.__class__")))
    (yExact_hm : PySem.W.mroIn K C_Exact (.type "object") = some true)
    (yExact_kW : PySem.W.kitOne K (.ref C_Exact) (.ref C_Wheel) = some true)
    (yExact_sub : PySem.W.mroIn K C_Exact (.ref C_Exact) = some true)
    (yExact_sup : PySem.W.ks_superIn K C_Exact C_Exact "__init__" = some (some (.ref f_Wheel_init)))
    (yGrid_cls : Cls K C_Grid)
    (yGrid_n1 : NoAttr K C_Grid "period")
    (yGrid_n2 : NoAttr K C_Grid "back")
    (yGrid_n3 : NoAttr K C_Grid "ahead")
    (yGrid_con : PySem.W.findIn K (.ref C_Grid) "TRUSTED" = some (some (.bool true)))
    (yGrid_m1 : PySem.W.makesIn K C_Grid = true)
    (yGrid_m3 : PySem.W.isFn K (.ref f_Grid_init) = true)
    (yGrid_m4 : PySem.W.keepIn K (.ref C_Grid) = true)
    (yGrid_str : PySem.W.findIn K (.ref C_Grid) "__str__" = some (some (.ref f_Wheel_str)))
    (yGrid_ha : PySem.W.findIn K (.ref C_Grid) "__class__" = some (some (.builtin "object.__class__")))
    (yGrid_hm : PySem.W.mroIn K C_Grid (.type "object") = some true)
    (yGrid_kW : PySem.W.kitOne K (.ref C_Grid) (.ref C_Wheel) = some true)
    (yGrid_sub : PySem.W.mroIn K C_Grid (.ref C_Grid) = some true)
    (yGrid_sup : PySem.W.ks_superIn K C_Grid C_Grid "__init__" = some (some (.ref f_Wheel_init)))
    (zNoName_L : K.lookup C_NoName = some (excClassObj nmNoName qbNoName C_NoName NbNoName bsNoName bmNoName true snNoName suNoName abNoName coNoName ddNoName m0NoName m1NoName m2NoName m3NoName m5NoName "ValueError.__new__"))
    (zNoName_b : PySem.HandSPX.refsVE bmNoName = true)
    (zNoName_sa : PySem.W.findIn K (.ref C_NoName) "__setattr__" = some (some (.builtin "object.__setattr__")))
    (zNoName_tI : PySem.W.typeIn K (.ref f_NoName_init) = some (.type "function"))
    (zNoName_no0 : PySem.W.findIn K (.ref C_NoName) "name" = some Option.none)
    (zNoName_ex : PySem.W.subIn K (.ref C_NoName) (.type "BaseException") = some true)
    (zNoName_ty : PySem.W.typeIn K (.ref C_NoName) = some (.type "type"))
    (zNoName_k : PySem.W.keepIn K (.ref C_NoName) = true)
    (zNoName_cl : PySem.W.isClsIn K C_NoName = true)
    (zNoName_ga : PySem.W.findIn K (.ref C_NoName) "__getattribute__" = some (some (.builtin "BaseException.__getattribute__")))
    (zNoName_gg : PySem.W.findIn K (.ref C_NoName) "__getattr__" = some Option.none)
    (zNoName_hd : PySem.W.hasDictIn K C_NoName = true)
    (zNoName_ha : PySem.W.findIn K (.ref C_NoName) "__class__" = some (some (.builtin "object.__class__")))
    (zNoName_hm : PySem.W.mroIn K C_NoName (.type "object") = some true)
    (zNoName_self : PySem.W.subIn K (.ref C_NoName) (.ref C_NoName) = some true)
    (zNothing_ei : PySem.W.excIn K C_Nothing [.type "ValueError", .type "Exception", .type "BaseException", .type "object"] "ValueError.__new__" = true)
    (zNothing_kN : PySem.W.kitOne K (.ref C_Nothing) (.ref C_ReachError) = some true)
    (zNothing_ex : PySem.W.subIn K (.ref C_Nothing) (.type "BaseException") = some true)
    (zNothing_ty : PySem.W.typeIn K (.ref C_Nothing) = some (.type "type"))
    (zNothing_k : PySem.W.keepIn K (.ref C_Nothing) = true)
    (zNothing_cl : PySem.W.isClsIn K C_Nothing = true)
    (zNothing_ga : PySem.W.findIn K (.ref C_Nothing) "__getattribute__" = some (some (.builtin "BaseException.__getattribute__")))
    (zNothing_gg : PySem.W.findIn K (.ref C_Nothing) "__getattr__" = some Option.none)
    (zNothing_hd : PySem.W.hasDictIn K C_Nothing = true)
    (zNothing_ha : PySem.W.findIn K (.ref C_Nothing) "__class__" = some (some (.builtin "object.__class__")))
    (zNothing_hm : PySem.W.mroIn K C_Nothing (.type "object") = some true)
    (zNothing_self : PySem.W.subIn K (.ref C_Nothing) (.ref C_Nothing) = some true)
    (y_fdrop : PySem.W.isFn K (.ref f_Shelf_drop) = true)
    (y_fredo : PySem.W.isFn K (.ref f_Shelf_redo) = true)
    (y_ftwin : PySem.W.isFn K (.ref f_Shelf_twin) = true)
    (y_fsetitem : PySem.W.isFn K (.ref f_Shelf_setitem) = true)
    (y_nq : PySem.W.noSeq K C_Shelf = true) :
    LawG l w K 12 mg fa h := by
  have e := hfa.symm.trans (PySem.W.mg_of X G a_law)
  cases e
  have HP : PrF lawFile l.prog := ⟨x_pf, x_pt⟩
  let T : Txt K mg := { a_is_whole := f_is_whole, fd_is_whole := _, F_is_whole := fun_mk (st := s_is_whole) l_is_whole c_is_whole k_is_whole, m_is_whole := PySem.W.mg_of X G a_is_whole, a_is_between := f_is_between, fd_is_between := _, F_is_between := fun_mk (st := s_is_between) l_is_between c_is_between k_is_between, m_is_between := PySem.W.mg_of X G a_is_between, a_is_name := f_is_name, fd_is_name := _, F_is_name := fun_mk (st := s_is_name) l_is_name c_is_name k_is_name, m_is_name := PySem.W.mg_of X G a_is_name, a_need_part := f_need_part, fd_need_part := _, F_need_part := fun_mk (st := s_need_part) l_need_part c_need_part k_need_part, m_need_part := PySem.W.mg_of X G a_need_part, a_with_item := f_with_item, fd_with_item := _, F_with_item := fun_mk (st := s_with_item) l_with_item c_with_item k_with_item, m_with_item := PySem.W.mg_of X G a_with_item, a_with_row := f_with_row, fd_with_row := _, F_with_row := fun_mk (st := s_with_row) l_with_row c_with_row k_with_row, m_with_row := PySem.W.mg_of X G a_with_row, a_pen := f_pen, fd_pen := _, F_pen := fun_mk (st := s_pen) l_pen c_pen k_pen, m_pen := PySem.W.mg_of X G a_pen, a_draw := f_draw, fd_draw := _, F_draw := fun_mk (st := s_draw) l_draw c_draw k_draw, m_draw := PySem.W.mg_of X G a_draw, a_pick := f_pick, fd_pick := _, F_pick := fun_mk (st := s_pick) l_pick c_pick k_pick, m_pick := PySem.W.mg_of X G a_pick, a_name := f_name, fd_name := _, F_name := fun_mk (st := s_name) l_name c_name k_name, m_name := PySem.W.mg_of X G a_name, a_state := f_state, fd_state := _, F_state := fun_mk (st := s_state) l_state c_state k_state, m_state := PySem.W.mg_of X G a_state, a_with := f_with, fd_with := _, F_with := fun_mk (st := s_with) l_with c_with k_with, m_with := PySem.W.mg_of X G a_with, a_row := f_row, fd_row := _, F_row := fun_mk (st := s_row) l_row c_row k_row, m_row := PySem.W.mg_of X G a_row, a_deed := f_deed, fd_deed := _, F_deed := fun_mk (st := s_deed) l_deed c_deed k_deed, m_deed := PySem.W.mg_of X G a_deed, a_step := f_step, fd_step := _, F_step := fun_mk (st := s_step) l_step c_step k_step, m_step := PySem.W.mg_of X G a_step, a_stands := f_stands, fd_stands := _, F_stands := fun_mk (st := s_stands) l_stands c_stands k_stands, m_stands := PySem.W.mg_of X G a_stands, a_led := f_led, fd_led := _, F_led := fun_mk (st := s_led) l_led c_led k_led, m_led := PySem.W.mg_of X G a_led, a_walked := f_walked, fd_walked := _, F_walked := fun_mk (st := s_walked) l_walked c_walked k_walked, m_walked := PySem.W.mg_of X G a_walked, a_same_right := f_same_right, fd_same_right := _, F_same_right := fun_mk (st := s_same_right) l_same_right c_same_right k_same_right, m_same_right := PySem.W.mg_of X G a_same_right, a_law := fa, fd_law := _, F_law := fun_mk (st := s_law) l_law c_law k_law, m_law := PySem.W.mg_of X G a_law, a_BadWheel_init := f_BadWheel_init, fd_BadWheel_init := _, F_BadWheel_init := fun_mk (st := s_BadWheel_init) l_BadWheel_init c_BadWheel_init k_BadWheel_init, a_BadShelf_init := f_BadShelf_init, fd_BadShelf_init := _, F_BadShelf_init := fun_mk (st := s_BadShelf_init) l_BadShelf_init c_BadShelf_init k_BadShelf_init, a_BadDeed_init := f_BadDeed_init, fd_BadDeed_init := _, F_BadDeed_init := fun_mk (st := s_BadDeed_init) l_BadDeed_init c_BadDeed_init k_BadDeed_init, a_NoName_init := f_NoName_init, fd_NoName_init := _, F_NoName_init := fun_mk (st := s_NoName_init) l_NoName_init c_NoName_init k_NoName_init, a_TooMany_init := f_TooMany_init, fd_TooMany_init := _, F_TooMany_init := fun_mk (st := s_TooMany_init) l_TooMany_init c_TooMany_init k_TooMany_init, a_Wheel_init := f_Wheel_init, fd_Wheel_init := _, F_Wheel_init := fun_mk (st := s_Wheel_init) l_Wheel_init c_Wheel_init k_Wheel_init, a_Wheel_str := f_Wheel_str, fd_Wheel_str := _, F_Wheel_str := fun_mk (st := s_Wheel_str) l_Wheel_str c_Wheel_str k_Wheel_str, a_Exact_init := f_Exact_init, cda_Exact_init := ca_Exact_init, cc_Exact_init := cc_Exact_init, fd_Exact_init := _, F_Exact_init := funS_mk (st := s_Exact_init) l_Exact_init c_Exact_init k_Exact_init, so_Exact_init := ⟨⟨_, _, _, _, _, t_Exact_init, p_Exact_init⟩, ⟨_, _, _, y_Exact_init⟩, ⟨_, w_Exact_init⟩, PySem.W.mg_none_of X G z_super, x_any, x_sT, x_sF⟩, a_Grid_init := f_Grid_init, cda_Grid_init := ca_Grid_init, cc_Grid_init := cc_Grid_init, fd_Grid_init := _, F_Grid_init := funS_mk (st := s_Grid_init) l_Grid_init c_Grid_init k_Grid_init, so_Grid_init := ⟨⟨_, _, _, _, _, t_Grid_init, p_Grid_init⟩, ⟨_, _, _, y_Grid_init⟩, ⟨_, w_Grid_init⟩, PySem.W.mg_none_of X G z_super, x_any, x_sT, x_sF⟩, a_Shelf_init := f_Shelf_init, fd_Shelf_init := _, F_Shelf_init := fun_mk (st := s_Shelf_init) l_Shelf_init c_Shelf_init k_Shelf_init, a_Shelf_can_undo := f_Shelf_can_undo, fd_Shelf_can_undo := _, F_Shelf_can_undo := fun_mk (st := s_Shelf_can_undo) l_Shelf_can_undo c_Shelf_can_undo k_Shelf_can_undo, a_Shelf_can_redo := f_Shelf_can_redo, fd_Shelf_can_redo := _, F_Shelf_can_redo := fun_mk (st := s_Shelf_can_redo) l_Shelf_can_redo c_Shelf_can_redo k_Shelf_can_redo, a_Shelf_len := f_Shelf_len, fd_Shelf_len := _, F_Shelf_len := fun_mk (st := s_Shelf_len) l_Shelf_len c_Shelf_len k_Shelf_len, a_Shelf_iter := f_Shelf_iter, fd_Shelf_iter := _, F_Shelf_iter := fun_mk (st := s_Shelf_iter) l_Shelf_iter c_Shelf_iter k_Shelf_iter, a_Shelf_contains := f_Shelf_contains, fd_Shelf_contains := _, F_Shelf_contains := fun_mk (st := s_Shelf_contains) l_Shelf_contains c_Shelf_contains k_Shelf_contains, a_Shelf_getitem := f_Shelf_getitem, fd_Shelf_getitem := _, F_Shelf_getitem := fun_mk (st := s_Shelf_getitem) l_Shelf_getitem c_Shelf_getitem k_Shelf_getitem, a_Shelf_setitem := f_Shelf_setitem, fd_Shelf_setitem := _, F_Shelf_setitem := fun_mk (st := s_Shelf_setitem) l_Shelf_setitem c_Shelf_setitem k_Shelf_setitem, a_Shelf_drop := f_Shelf_drop, fd_Shelf_drop := _, F_Shelf_drop := fun_mk (st := s_Shelf_drop) l_Shelf_drop c_Shelf_drop k_Shelf_drop, a_Shelf_stock := f_Shelf_stock, fd_Shelf_stock := _, F_Shelf_stock := fun_mk (st := s_Shelf_stock) l_Shelf_stock c_Shelf_stock k_Shelf_stock, a_Shelf_done := f_Shelf_done, fd_Shelf_done := _, F_Shelf_done := fun_mk (st := s_Shelf_done) l_Shelf_done c_Shelf_done k_Shelf_done, a_Shelf_hold := f_Shelf_hold, fd_Shelf_hold := _, F_Shelf_hold := fun_mk (st := s_Shelf_hold) l_Shelf_hold c_Shelf_hold k_Shelf_hold, a_Shelf_undo := f_Shelf_undo, fd_Shelf_undo := _, F_Shelf_undo := fun_mk (st := s_Shelf_undo) l_Shelf_undo c_Shelf_undo k_Shelf_undo, a_Shelf_redo := f_Shelf_redo, fd_Shelf_redo := _, F_Shelf_redo := fun_mk (st := s_Shelf_redo) l_Shelf_redo c_Shelf_redo k_Shelf_redo, a_Shelf_twin := f_Shelf_twin, fd_Shelf_twin := _, F_Shelf_twin := fun_mk (st := s_Shelf_twin) l_Shelf_twin c_Shelf_twin k_Shelf_twin, n_ValueError := PySem.W.mg_none_of X G z_ValueError, n_abs := PySem.W.mg_none_of X G z_abs, n_bool := PySem.W.mg_none_of X G z_bool, n_enumerate := PySem.W.mg_none_of X G z_enumerate, n_int := PySem.W.mg_none_of X G z_int, n_isinstance := PySem.W.mg_none_of X G z_isinstance, n_iter := PySem.W.mg_none_of X G z_iter, n_len := PySem.W.mg_none_of X G z_len, n_list := PySem.W.mg_none_of X G z_list, n_property := PySem.W.mg_none_of X G z_property, n_range := PySem.W.mg_none_of X G z_range, n_repr := PySem.W.mg_none_of X G z_repr, n_sorted := PySem.W.mg_none_of X G z_sorted, n_staticmethod := PySem.W.mg_none_of X G z_staticmethod, n_str := PySem.W.mg_none_of X G z_str, n_super := PySem.W.mg_none_of X G z_super, n_tuple := PySem.W.mg_none_of X G z_tuple, a_Wheel := C_Wheel, m_Wheel := PySem.W.mg_of X G x_Wheel, a_Exact := C_Exact, m_Exact := PySem.W.mg_of X G x_Exact, a_Grid := C_Grid, m_Grid := PySem.W.mg_of X G x_Grid, a_Shelf := C_Shelf, m_Shelf := PySem.W.mg_of X G x_Shelf, u_MP := .int 1000000000000 tM, m_MP := PySem.W.mg_of X G x_MP, r_MP := ⟨_, rfl⟩, u_ML := .int 8 tL, m_ML := PySem.W.mg_of X G x_ML, r_ML := ⟨_, rfl⟩, u_MN := .int 8 tN, m_MN := PySem.W.mg_of X G x_MN, r_MN := ⟨_, rfl⟩, u_MQ := .int 1000000000000 tQ, m_MQ := PySem.W.mg_of X G x_MQ, r_MQ := ⟨_, rfl⟩, bad := { C := C_BadWheel, f := f_BadWheel_init, fd := _, oex := ⟨⟨_, _, _, _, _, _, _, _, _, _, _, _, _, _, _, zBadWheel_L, zBadWheel_b⟩, zBadWheel_sa, zBadWheel_ex, zBadWheel_ty, zBadWheel_k⟩, iC := a_BadWheel_init, tI := zBadWheel_tI, F := fun_mk (st := s_BadWheel_init) l_BadWheel_init c_BadWheel_init k_BadWheel_init, no := zBadWheel_no0, m := PySem.W.mg_of X G x_BadWheel }, bads := { C := C_BadShelf, f := f_BadShelf_init, fd := _, oex := ⟨⟨_, _, _, _, _, _, _, _, _, _, _, _, _, _, _, zBadShelf_L, zBadShelf_b⟩, zBadShelf_sa, zBadShelf_ex, zBadShelf_ty, zBadShelf_k⟩, iC := a_BadShelf_init, tI := zBadShelf_tI, F := fun_mk (st := s_BadShelf_init) l_BadShelf_init c_BadShelf_init k_BadShelf_init, no := zBadShelf_no0, m := PySem.W.mg_of X G x_BadShelf }, badd := { C := C_BadDeed, f := f_BadDeed_init, fd := _, oex := ⟨⟨_, _, _, _, _, _, _, _, _, _, _, _, _, _, _, zBadDeed_L, zBadDeed_b⟩, zBadDeed_sa, zBadDeed_ex, zBadDeed_ty, zBadDeed_k⟩, iC := a_BadDeed_init, tI := zBadDeed_tI, F := fun_mk (st := s_BadDeed_init) l_BadDeed_init c_BadDeed_init k_BadDeed_init, no := zBadDeed_no0, m := PySem.W.mg_of X G x_BadDeed }, tmany := { C := C_TooMany, f := f_TooMany_init, fd := _, oex := ⟨⟨_, _, _, _, _, _, _, _, _, _, _, _, _, _, _, zTooMany_L, zTooMany_b⟩, zTooMany_sa, zTooMany_ex, zTooMany_ty, zTooMany_k⟩, iC := a_TooMany_init, tI := zTooMany_tI, F := fun_mk (st := s_TooMany_init) l_TooMany_init c_TooMany_init k_TooMany_init, no1 := zTooMany_no0, no2 := zTooMany_no1, m := PySem.W.mg_of X G x_TooMany }, R := C_ReachError, m_R := PySem.W.mg_of X G x_R, scls := y_scls, smk := ⟨y_smakes, a_Shelf_init, y_sfn, y_skp⟩, s_done := ⟨a_Shelf_done, y_fdone, k_Shelf_done⟩, s_hold := ⟨a_Shelf_hold, y_fhold, k_Shelf_hold⟩, s_stock := ⟨a_Shelf_stock, y_fstock, k_Shelf_stock⟩, s_undo := ⟨a_Shelf_undo, y_fundo, k_Shelf_undo⟩, p_can_undo := p_Shelf_can_undo, p_can_redo := p_Shelf_can_redo, pr_undo := ⟨a_Shelf_can_undo, y_pg_can_undo, y_pt_can_undo, ⟨_, r_Shelf_can_undo⟩⟩, pr_redo := ⟨a_Shelf_can_redo, y_pg_can_redo, y_pt_can_redo, ⟨_, r_Shelf_can_redo⟩⟩, s_na := fun y hy => by simp only [List.mem_cons, List.not_mem_nil, or_false] at hy; rcases hy with rfl | rfl | rfl | rfl; exact y_sn0; exact y_sn1; exact y_sn2; exact y_sn3, fi_in := a_Shelf_contains, fn_in := y_fcontains, fi_len := a_Shelf_len, fn_len := y_flen, fi_iter := a_Shelf_iter, fn_iter := y_fiter, fi_get := a_Shelf_getitem, fn_get := y_fgetitem, non := { C := C_NoName, f := f_NoName_init, fd := _, oex := ⟨⟨_, _, _, _, _, _, _, _, _, _, _, _, _, _, _, zNoName_L, zNoName_b⟩, zNoName_sa, zNoName_ex, zNoName_ty, zNoName_k⟩, iC := a_NoName_init, tI := zNoName_tI, F := fun_mk (st := s_NoName_init) l_NoName_init c_NoName_init k_NoName_init, no := zNoName_no0, m := PySem.W.mg_of X G x_NoName }, noth := { C := C_Nothing, ex := zNothing_ei, kp := zNothing_k, sb := zNothing_ex, ty := zNothing_ty, m := PySem.W.mg_of X G x_Nothing }, s_drop := ⟨a_Shelf_drop, y_fdrop, k_Shelf_drop⟩, s_redo := ⟨a_Shelf_redo, y_fredo, k_Shelf_redo⟩, s_twin := ⟨a_Shelf_twin, y_ftwin, k_Shelf_twin⟩, fi_set := a_Shelf_setitem, fn_set := y_fsetitem, nq_set := y_nq }
  have W : Whl T := {
    W := { w := { w := ⟨yWheel_cls, fun y hy => by simp only [List.mem_cons, List.not_mem_nil, or_false] at hy; rcases hy with rfl | rfl | rfl; exact yWheel_n1; exact yWheel_n2; exact yWheel_n3⟩, con := ⟨.bool false, yWheel_con, rfl, y_gfalse, by decide⟩ }, ty := fun H a dx fs e => .base (.ins e yWheel_cls yWheel_ha x_hn x_ht yWheel_hm), wh := yWheel_kW, mkr := ⟨yWheel_m1, a_Wheel_init, yWheel_m3, yWheel_m4⟩, str := yWheel_str }
    X := { w := { w := ⟨yExact_cls, fun y hy => by simp only [List.mem_cons, List.not_mem_nil, or_false] at hy; rcases hy with rfl | rfl | rfl; exact yExact_n1; exact yExact_n2; exact yExact_n3⟩, con := ⟨.bool false, yExact_con, rfl, y_gfalse, by decide⟩ }, ty := fun H a dx fs e => .base (.ins e yExact_cls yExact_ha x_hn x_ht yExact_hm), wh := yExact_kW, mkr := ⟨yExact_m1, a_Exact_init, yExact_m3, yExact_m4⟩, str := yExact_str }
    G := { w := { w := ⟨yGrid_cls, fun y hy => by simp only [List.mem_cons, List.not_mem_nil, or_false] at hy; rcases hy with rfl | rfl | rfl; exact yGrid_n1; exact yGrid_n2; exact yGrid_n3⟩, con := ⟨.bool true, yGrid_con, rfl, y_gtrue, by decide⟩ }, ty := fun H a dx fs e => .base (.ins e yGrid_cls yGrid_ha x_hn x_ht yGrid_hm), wh := yGrid_kW, mkr := ⟨yGrid_m1, a_Grid_init, yGrid_m3, yGrid_m4⟩, str := yGrid_str }
    sX := ⟨yExact_sub, yExact_sup, ⟨_, w_Exact_init⟩⟩
    sG := ⟨yGrid_sub, yGrid_sup, ⟨_, w_Grid_init⟩⟩
    fnS := y_fstr
    no := fun t ht => by
      simp only [List.mem_cons, List.not_mem_nil, or_false] at ht
      rcases ht with rfl | rfl | rfl
      · exact y_kNoneType
      · exact y_kstr
      · exact y_kint
  }
  have B : Caught T := {
    exS := PySem.W.exm_ref x_Rx x_Rh x_Rt zBadShelf_RC
    exM := PySem.W.exm_ref x_Rx x_Rh x_Rt zTooMany_RC
    sbS := zBadShelf_ex
    sbM := zTooMany_ex
    exD := PySem.W.exm_ref zBadDeed_ex zBadDeed_hd zBadDeed_ty zBadDeed_self
    eD := ⟨zBadDeed_cl, zBadDeed_ga, zBadDeed_gg, zBadDeed_ex, zBadDeed_hd, zBadDeed_ha, x_hn, x_ht, zBadDeed_hm⟩
    kR := zBadDeed_kR
    kV := zBadDeed_kV
    kS := zBadDeed_kS }
  have B1 : Caught1 T := {
    exN := PySem.W.exm_ref zNothing_ex zNothing_hd zNothing_ty zNothing_self
    eN := ⟨zNothing_cl, zNothing_ga, zNothing_gg, zNothing_ex, zNothing_hd, zNothing_ha, x_hn, x_ht, zNothing_hm⟩
    kN := zNothing_kN
    exO := PySem.W.exm_ref zNoName_ex zNoName_hd zNoName_ty zNoName_self
    eO := ⟨zNoName_cl, zNoName_ga, zNoName_gg, zNoName_ex, zNoName_hd, zNoName_ha, x_hn, x_ht, zNoName_hm⟩ }
  refine ⟨[], spLaw K, fun p hp => absurd hp List.not_mem_nil, fun p hp => absurd hp List.not_mem_nil, fun p hp => absurd hp List.not_mem_nil, fun H a ns hl hb tt hS => ⟨a, ns, rfl, hS, hl, fun _ => rfl⟩, fun base KB NB TBs => ok_law HP T W B B1⟩
end My
open PySem PySem.W PyProof.Rows in
set_option maxRecDepth 100000 in
set_option maxHeartbeats 0 in
theorem PySem.Challenge.cw_wheelreach_k81_whole_shelves_led_back_an_holds : PySem.Challenge.rw_wheelreach_k81_whole_shelves_led_back_an.Holds := by
  w_on; o_law; k_head; (case hw => w_witness2)
  k_fill
  refine My.walkG (l := PySem.Challenge.rw_wheelreach_k81_whole_shelves_led_back_an) (k := 12) [] (by decide +kernel) rfl rfl ⟨rfl, by decide, by decide⟩ (fun w h Y => PySem.W.kIn_of Y) ?F
  case F =>
    intro w mg fa h KX G hmg tabs
    refine' My.all_mk KX G hmg tabs ?a_is_whole ?l_is_whole ?c_is_whole ?k_is_whole ?a_is_between ?l_is_between ?c_is_between ?k_is_between ?a_is_name ?l_is_name ?c_is_name ?k_is_name ?a_need_part ?l_need_part ?c_need_part ?k_need_part ?a_with_item ?l_with_item ?c_with_item ?k_with_item ?a_with_row ?l_with_row ?c_with_row ?k_with_row ?a_pen ?l_pen ?c_pen ?k_pen ?a_draw ?l_draw ?c_draw ?k_draw ?a_pick ?l_pick ?c_pick ?k_pick ?a_name ?l_name ?c_name ?k_name ?a_state ?l_state ?c_state ?k_state ?a_with ?l_with ?c_with ?k_with ?a_row ?l_row ?c_row ?k_row ?a_deed ?l_deed ?c_deed ?k_deed ?a_step ?l_step ?c_step ?k_step ?a_stands ?l_stands ?c_stands ?k_stands ?a_led ?l_led ?c_led ?k_led ?a_walked ?l_walked ?c_walked ?k_walked ?a_same_right ?l_same_right ?c_same_right ?k_same_right ?a_law ?l_law ?c_law ?k_law ?a_BadWheel_init ?l_BadWheel_init ?c_BadWheel_init ?k_BadWheel_init ?a_BadShelf_init ?l_BadShelf_init ?c_BadShelf_init ?k_BadShelf_init ?a_BadDeed_init ?l_BadDeed_init ?c_BadDeed_init ?k_BadDeed_init ?a_NoName_init ?l_NoName_init ?c_NoName_init ?k_NoName_init ?a_TooMany_init ?l_TooMany_init ?c_TooMany_init ?k_TooMany_init ?a_Wheel_init ?l_Wheel_init ?c_Wheel_init ?k_Wheel_init ?a_Wheel_str ?l_Wheel_str ?c_Wheel_str ?k_Wheel_str ?a_Exact_init ?l_Exact_init ?c_Exact_init ?k_Exact_init ?t_Exact_init ?p_Exact_init ?y_Exact_init ?w_Exact_init ?a_Grid_init ?l_Grid_init ?c_Grid_init ?k_Grid_init ?t_Grid_init ?p_Grid_init ?y_Grid_init ?w_Grid_init ?a_Shelf_init ?l_Shelf_init ?c_Shelf_init ?k_Shelf_init ?a_Shelf_can_undo ?r_Shelf_can_undo ?l_Shelf_can_undo ?c_Shelf_can_undo ?k_Shelf_can_undo ?a_Shelf_can_redo ?r_Shelf_can_redo ?l_Shelf_can_redo ?c_Shelf_can_redo ?k_Shelf_can_redo ?a_Shelf_len ?l_Shelf_len ?c_Shelf_len ?k_Shelf_len ?a_Shelf_iter ?l_Shelf_iter ?c_Shelf_iter ?k_Shelf_iter ?a_Shelf_contains ?l_Shelf_contains ?c_Shelf_contains ?k_Shelf_contains ?a_Shelf_getitem ?l_Shelf_getitem ?c_Shelf_getitem ?k_Shelf_getitem ?a_Shelf_setitem ?l_Shelf_setitem ?c_Shelf_setitem ?k_Shelf_setitem ?a_Shelf_drop ?l_Shelf_drop ?c_Shelf_drop ?k_Shelf_drop ?a_Shelf_stock ?l_Shelf_stock ?c_Shelf_stock ?k_Shelf_stock ?a_Shelf_done ?l_Shelf_done ?c_Shelf_done ?k_Shelf_done ?a_Shelf_hold ?l_Shelf_hold ?c_Shelf_hold ?k_Shelf_hold ?a_Shelf_undo ?l_Shelf_undo ?c_Shelf_undo ?k_Shelf_undo ?a_Shelf_redo ?l_Shelf_redo ?c_Shelf_redo ?k_Shelf_redo ?a_Shelf_twin ?l_Shelf_twin ?c_Shelf_twin ?k_Shelf_twin ?z_ValueError ?z_abs ?z_bool ?z_enumerate ?z_int ?z_isinstance ?z_iter ?z_len ?z_list ?z_property ?z_range ?z_repr ?z_sorted ?z_staticmethod ?z_str ?z_super ?z_tuple ?x_Nothing ?x_NoName ?x_R ?x_MP ?x_ML ?x_MN ?x_MQ ?x_Wheel ?x_Exact ?x_Grid ?x_Shelf ?x_BadWheel ?x_BadShelf ?x_BadDeed ?x_TooMany ?x_pf ?x_pt ?x_any ?x_sT ?x_sF ?x_hn ?x_ht ?x_Rx ?x_Rh ?x_Rt ?zBadWheel_L ?zBadWheel_b ?zBadWheel_sa ?zBadWheel_ex ?zBadWheel_ty ?zBadWheel_k ?zBadWheel_tI ?zBadWheel_no0 ?zBadShelf_L ?zBadShelf_b ?zBadShelf_sa ?zBadShelf_ex ?zBadShelf_ty ?zBadShelf_k ?zBadShelf_tI ?zBadShelf_RC ?zBadShelf_no0 ?zBadDeed_L ?zBadDeed_b ?zBadDeed_sa ?zBadDeed_ex ?zBadDeed_ty ?zBadDeed_k ?zBadDeed_tI ?zBadDeed_cl ?zBadDeed_ga ?zBadDeed_gg ?zBadDeed_hd ?zBadDeed_ha ?zBadDeed_hm ?zBadDeed_self ?zBadDeed_kR ?zBadDeed_kV ?zBadDeed_kS ?zBadDeed_no0 ?zTooMany_L ?zTooMany_b ?zTooMany_sa ?zTooMany_ex ?zTooMany_ty ?zTooMany_k ?zTooMany_tI ?zTooMany_RC ?zTooMany_no0 ?zTooMany_no1 ?y_gfalse ?y_gtrue ?y_fstr ?y_kNoneType ?y_kstr ?y_kint ?y_sn0 ?y_sn1 ?y_sn2 ?y_sn3 ?y_scls ?y_smakes ?y_sfn ?y_skp ?y_fdone ?y_fhold ?y_fstock ?y_fundo ?y_fcontains ?y_flen ?y_fiter ?y_fgetitem ?y_pg_can_undo ?y_pt_can_undo ?y_pg_can_redo ?y_pt_can_redo ?yWheel_cls ?yWheel_n1 ?yWheel_n2 ?yWheel_n3 ?yWheel_con ?yWheel_m1 ?yWheel_m3 ?yWheel_m4 ?yWheel_str ?yWheel_ha ?yWheel_hm ?yWheel_kW ?yExact_cls ?yExact_n1 ?yExact_n2 ?yExact_n3 ?yExact_con ?yExact_m1 ?yExact_m3 ?yExact_m4 ?yExact_str ?yExact_ha ?yExact_hm ?yExact_kW ?yExact_sub ?yExact_sup ?yGrid_cls ?yGrid_n1 ?yGrid_n2 ?yGrid_n3 ?yGrid_con ?yGrid_m1 ?yGrid_m3 ?yGrid_m4 ?yGrid_str ?yGrid_ha ?yGrid_hm ?yGrid_kW ?yGrid_sub ?yGrid_sup ?zNoName_L ?zNoName_b ?zNoName_sa ?zNoName_tI ?zNoName_no0 ?zNoName_ex ?zNoName_ty ?zNoName_k ?zNoName_cl ?zNoName_ga ?zNoName_gg ?zNoName_hd ?zNoName_ha ?zNoName_hm ?zNoName_self ?zNothing_ei ?zNothing_kN ?zNothing_ex ?zNothing_ty ?zNothing_k ?zNothing_cl ?zNothing_ga ?zNothing_gg ?zNothing_hd ?zNothing_ha ?zNothing_hm ?zNothing_self ?y_fdrop ?y_fredo ?y_ftwin ?y_fsetitem ?y_nq
    (case x_Nothing => k_is)
    (case x_NoName => k_is)
    (case x_R => k_is)
    (case x_MP => k_is)
    (case x_ML => k_is)
    (case x_MN => k_is)
    (case x_MQ => k_is)
    (case x_Wheel => k_is)
    (case x_Exact => k_is)
    (case x_Grid => k_is)
    (case x_Shelf => k_is)
    (case x_BadWheel => k_is)
    (case x_BadShelf => k_is)
    (case x_BadDeed => k_is)
    (case x_TooMany => k_is)
    (case a_is_whole => k_is)
    (case l_is_whole => k_is)
    (case c_is_whole => k_is)
    (case k_is_whole => k_is)
    (case a_is_between => k_is)
    (case l_is_between => k_is)
    (case c_is_between => k_is)
    (case k_is_between => k_is)
    (case a_is_name => k_is)
    (case l_is_name => k_is)
    (case c_is_name => k_is)
    (case k_is_name => k_is)
    (case a_need_part => k_is)
    (case l_need_part => k_is)
    (case c_need_part => k_is)
    (case k_need_part => k_is)
    (case a_with_item => k_is)
    (case l_with_item => k_is)
    (case c_with_item => k_is)
    (case k_with_item => k_is)
    (case a_with_row => k_is)
    (case l_with_row => k_is)
    (case c_with_row => k_is)
    (case k_with_row => k_is)
    (case a_pen => k_is)
    (case l_pen => k_is)
    (case c_pen => k_is)
    (case k_pen => k_is)
    (case a_draw => k_is)
    (case l_draw => k_is)
    (case c_draw => k_is)
    (case k_draw => k_is)
    (case a_pick => k_is)
    (case l_pick => k_is)
    (case c_pick => k_is)
    (case k_pick => k_is)
    (case a_name => k_is)
    (case l_name => k_is)
    (case c_name => k_is)
    (case k_name => k_is)
    (case a_state => k_is)
    (case l_state => k_is)
    (case c_state => k_is)
    (case k_state => k_is)
    (case a_with => k_is)
    (case l_with => k_is)
    (case c_with => k_is)
    (case k_with => k_is)
    (case a_row => k_is)
    (case l_row => k_is)
    (case c_row => k_is)
    (case k_row => k_is)
    (case a_deed => k_is)
    (case l_deed => k_is)
    (case c_deed => k_is)
    (case k_deed => k_is)
    (case a_step => k_is)
    (case l_step => k_is)
    (case c_step => k_is)
    (case k_step => k_is)
    (case a_stands => k_is)
    (case l_stands => k_is)
    (case c_stands => k_is)
    (case k_stands => k_is)
    (case a_led => k_is)
    (case l_led => k_is)
    (case c_led => k_is)
    (case k_led => k_is)
    (case a_walked => k_is)
    (case l_walked => k_is)
    (case c_walked => k_is)
    (case k_walked => k_is)
    (case a_same_right => k_is)
    (case l_same_right => k_is)
    (case c_same_right => k_is)
    (case k_same_right => k_is)
    (case a_law => k_is)
    (case l_law => k_is)
    (case c_law => k_is)
    (case k_law => k_is)
    (case a_BadWheel_init => k_is)
    (case l_BadWheel_init => k_is)
    (case c_BadWheel_init => k_is)
    (case k_BadWheel_init => k_is)
    (case a_BadShelf_init => k_is)
    (case l_BadShelf_init => k_is)
    (case c_BadShelf_init => k_is)
    (case k_BadShelf_init => k_is)
    (case a_BadDeed_init => k_is)
    (case l_BadDeed_init => k_is)
    (case c_BadDeed_init => k_is)
    (case k_BadDeed_init => k_is)
    (case a_NoName_init => k_is)
    (case l_NoName_init => k_is)
    (case c_NoName_init => k_is)
    (case k_NoName_init => k_is)
    (case a_TooMany_init => k_is)
    (case l_TooMany_init => k_is)
    (case c_TooMany_init => k_is)
    (case k_TooMany_init => k_is)
    (case a_Wheel_init => k_is)
    (case l_Wheel_init => k_is)
    (case c_Wheel_init => k_is)
    (case k_Wheel_init => k_is)
    (case a_Wheel_str => k_is)
    (case l_Wheel_str => k_is)
    (case c_Wheel_str => k_is)
    (case k_Wheel_str => k_is)
    (case a_Exact_init => k_is)
    (case l_Exact_init => k_is)
    (case c_Exact_init => k_is)
    (case k_Exact_init => k_is)
    (case t_Exact_init => k_is)
    (case p_Exact_init => first | rfl | k_is | decide +kernel)
    (case y_Exact_init => k_is)
    (case w_Exact_init => k_is)
    (case a_Grid_init => k_is)
    (case l_Grid_init => k_is)
    (case c_Grid_init => k_is)
    (case k_Grid_init => k_is)
    (case t_Grid_init => k_is)
    (case p_Grid_init => first | rfl | k_is | decide +kernel)
    (case y_Grid_init => k_is)
    (case w_Grid_init => k_is)
    (case a_Shelf_init => k_is)
    (case l_Shelf_init => k_is)
    (case c_Shelf_init => k_is)
    (case k_Shelf_init => k_is)
    (case a_Shelf_can_undo => k_is)
    (case r_Shelf_can_undo => k_is)
    (case l_Shelf_can_undo => k_is)
    (case c_Shelf_can_undo => k_is)
    (case k_Shelf_can_undo => k_is)
    (case a_Shelf_can_redo => k_is)
    (case r_Shelf_can_redo => k_is)
    (case l_Shelf_can_redo => k_is)
    (case c_Shelf_can_redo => k_is)
    (case k_Shelf_can_redo => k_is)
    (case a_Shelf_len => k_is)
    (case l_Shelf_len => k_is)
    (case c_Shelf_len => k_is)
    (case k_Shelf_len => k_is)
    (case a_Shelf_iter => k_is)
    (case l_Shelf_iter => k_is)
    (case c_Shelf_iter => k_is)
    (case k_Shelf_iter => k_is)
    (case a_Shelf_contains => k_is)
    (case l_Shelf_contains => k_is)
    (case c_Shelf_contains => k_is)
    (case k_Shelf_contains => k_is)
    (case a_Shelf_getitem => k_is)
    (case l_Shelf_getitem => k_is)
    (case c_Shelf_getitem => k_is)
    (case k_Shelf_getitem => k_is)
    (case a_Shelf_setitem => k_is)
    (case l_Shelf_setitem => k_is)
    (case c_Shelf_setitem => k_is)
    (case k_Shelf_setitem => k_is)
    (case a_Shelf_drop => k_is)
    (case l_Shelf_drop => k_is)
    (case c_Shelf_drop => k_is)
    (case k_Shelf_drop => k_is)
    (case a_Shelf_stock => k_is)
    (case l_Shelf_stock => k_is)
    (case c_Shelf_stock => k_is)
    (case k_Shelf_stock => k_is)
    (case a_Shelf_done => k_is)
    (case l_Shelf_done => k_is)
    (case c_Shelf_done => k_is)
    (case k_Shelf_done => k_is)
    (case a_Shelf_hold => k_is)
    (case l_Shelf_hold => k_is)
    (case c_Shelf_hold => k_is)
    (case k_Shelf_hold => k_is)
    (case a_Shelf_undo => k_is)
    (case l_Shelf_undo => k_is)
    (case c_Shelf_undo => k_is)
    (case k_Shelf_undo => k_is)
    (case a_Shelf_redo => k_is)
    (case l_Shelf_redo => k_is)
    (case c_Shelf_redo => k_is)
    (case k_Shelf_redo => k_is)
    (case a_Shelf_twin => k_is)
    (case l_Shelf_twin => k_is)
    (case c_Shelf_twin => k_is)
    (case k_Shelf_twin => k_is)
    (case z_ValueError => k_is)
    (case z_abs => k_is)
    (case z_bool => k_is)
    (case z_enumerate => k_is)
    (case z_int => k_is)
    (case z_isinstance => k_is)
    (case z_iter => k_is)
    (case z_len => k_is)
    (case z_list => k_is)
    (case z_property => k_is)
    (case z_range => k_is)
    (case z_repr => k_is)
    (case z_sorted => k_is)
    (case z_staticmethod => k_is)
    (case z_str => k_is)
    (case z_super => k_is)
    (case z_tuple => k_is)
    (case x_pf => first | rfl | decide +kernel)
    (case x_pt => first | rfl | decide +kernel)
    (case x_any => first | k_is | rfl | decide +kernel)
    (case x_sT => first | k_is | rfl | decide +kernel)
    (case x_sF => first | k_is | rfl | decide +kernel)
    (case x_hn => k_is)
    (case x_ht => k_is)
    (case x_Rx => k_is)
    (case x_Rh => k_is)
    (case x_Rt => k_is)
    (case zBadWheel_L => k_is)
    (case zBadWheel_b => first | rfl | decide +kernel)
    (case zBadWheel_sa => k_is)
    (case zBadWheel_ex => k_is)
    (case zBadWheel_ty => k_is)
    (case zBadWheel_k => k_is)
    (case zBadWheel_tI => k_is)
    (case zBadWheel_no0 => k_is)
    (case zBadShelf_L => k_is)
    (case zBadShelf_b => first | rfl | decide +kernel)
    (case zBadShelf_sa => k_is)
    (case zBadShelf_ex => k_is)
    (case zBadShelf_ty => k_is)
    (case zBadShelf_k => k_is)
    (case zBadShelf_tI => k_is)
    (case zBadShelf_RC => first | k_is | rfl | decide +kernel)
    (case zBadShelf_no0 => k_is)
    (case zBadDeed_L => k_is)
    (case zBadDeed_b => first | rfl | decide +kernel)
    (case zBadDeed_sa => k_is)
    (case zBadDeed_ex => k_is)
    (case zBadDeed_ty => k_is)
    (case zBadDeed_k => k_is)
    (case zBadDeed_tI => k_is)
    (case zBadDeed_cl => k_is)
    (case zBadDeed_ga => k_is)
    (case zBadDeed_gg => k_is)
    (case zBadDeed_hd => k_is)
    (case zBadDeed_ha => k_is)
    (case zBadDeed_hm => k_is)
    (case zBadDeed_self => first | k_is | rfl | decide +kernel)
    (case zBadDeed_kR => first | k_is | rfl | decide +kernel)
    (case zBadDeed_kV => first | k_is | rfl | decide +kernel)
    (case zBadDeed_kS => first | k_is | rfl | decide +kernel)
    (case zBadDeed_no0 => k_is)
    (case zTooMany_L => k_is)
    (case zTooMany_b => first | rfl | decide +kernel)
    (case zTooMany_sa => k_is)
    (case zTooMany_ex => k_is)
    (case zTooMany_ty => k_is)
    (case zTooMany_k => k_is)
    (case zTooMany_tI => k_is)
    (case zTooMany_RC => first | k_is | rfl | decide +kernel)
    (case zTooMany_no0 => k_is)
    (case zTooMany_no1 => k_is)
    (case y_gfalse => first | k_is | rfl | decide +kernel)
    (case y_gtrue => first | k_is | rfl | decide +kernel)
    (case y_fstr => first | k_is | rfl | decide +kernel)
    (case y_kNoneType => first | k_is | rfl | decide +kernel)
    (case y_kstr => first | k_is | rfl | decide +kernel)
    (case y_kint => first | k_is | rfl | decide +kernel)
    (case y_sn0 => show PySem.W.findIn _ _ _ = _; k_is)
    (case y_sn1 => show PySem.W.findIn _ _ _ = _; k_is)
    (case y_sn2 => show PySem.W.findIn _ _ _ = _; k_is)
    (case y_sn3 => show PySem.W.findIn _ _ _ = _; k_is)
    (case y_scls => exact ⟨by k_is, by k_is, by k_is, by k_is⟩)
    (case y_smakes => first | k_is | rfl | decide +kernel)
    (case y_sfn => first | k_is | rfl | decide +kernel)
    (case y_skp => first | k_is | rfl | decide +kernel)
    (case y_fdone => first | k_is | rfl | decide +kernel)
    (case y_fhold => first | k_is | rfl | decide +kernel)
    (case y_fstock => first | k_is | rfl | decide +kernel)
    (case y_fundo => first | k_is | rfl | decide +kernel)
    (case y_fcontains => first | k_is | rfl | decide +kernel)
    (case y_flen => first | k_is | rfl | decide +kernel)
    (case y_fiter => first | k_is | rfl | decide +kernel)
    (case y_fgetitem => first | k_is | rfl | decide +kernel)
    (case y_pg_can_undo => first | k_is | rfl | decide +kernel)
    (case y_pt_can_undo => first | k_is | rfl | decide +kernel)
    (case y_pg_can_redo => first | k_is | rfl | decide +kernel)
    (case y_pt_can_redo => first | k_is | rfl | decide +kernel)
    (case yWheel_cls => exact ⟨by k_is, by k_is, by k_is, by k_is⟩)
    (case yWheel_n1 => show PySem.W.findIn _ _ _ = _; k_is)
    (case yWheel_n2 => show PySem.W.findIn _ _ _ = _; k_is)
    (case yWheel_n3 => show PySem.W.findIn _ _ _ = _; k_is)
    (case yWheel_con => first | k_is | rfl | decide +kernel)
    (case yWheel_m1 => first | k_is | rfl | decide +kernel)
    (case yWheel_m3 => first | k_is | rfl | decide +kernel)
    (case yWheel_m4 => first | k_is | rfl | decide +kernel)
    (case yWheel_str => first | k_is | rfl | decide +kernel)
    (case yWheel_ha => first | k_is | rfl | decide +kernel)
    (case yWheel_hm => first | k_is | rfl | decide +kernel)
    (case yWheel_kW => first | k_is | rfl | decide +kernel)
    (case yExact_cls => exact ⟨by k_is, by k_is, by k_is, by k_is⟩)
    (case yExact_n1 => show PySem.W.findIn _ _ _ = _; k_is)
    (case yExact_n2 => show PySem.W.findIn _ _ _ = _; k_is)
    (case yExact_n3 => show PySem.W.findIn _ _ _ = _; k_is)
    (case yExact_con => first | k_is | rfl | decide +kernel)
    (case yExact_m1 => first | k_is | rfl | decide +kernel)
    (case yExact_m3 => first | k_is | rfl | decide +kernel)
    (case yExact_m4 => first | k_is | rfl | decide +kernel)
    (case yExact_str => first | k_is | rfl | decide +kernel)
    (case yExact_ha => first | k_is | rfl | decide +kernel)
    (case yExact_hm => first | k_is | rfl | decide +kernel)
    (case yExact_kW => first | k_is | rfl | decide +kernel)
    (case yExact_sub => first | k_is | rfl | decide +kernel)
    (case yExact_sup => first | k_is | rfl | decide +kernel)
    (case yGrid_cls => exact ⟨by k_is, by k_is, by k_is, by k_is⟩)
    (case yGrid_n1 => show PySem.W.findIn _ _ _ = _; k_is)
    (case yGrid_n2 => show PySem.W.findIn _ _ _ = _; k_is)
    (case yGrid_n3 => show PySem.W.findIn _ _ _ = _; k_is)
    (case yGrid_con => first | k_is | rfl | decide +kernel)
    (case yGrid_m1 => first | k_is | rfl | decide +kernel)
    (case yGrid_m3 => first | k_is | rfl | decide +kernel)
    (case yGrid_m4 => first | k_is | rfl | decide +kernel)
    (case yGrid_str => first | k_is | rfl | decide +kernel)
    (case yGrid_ha => first | k_is | rfl | decide +kernel)
    (case yGrid_hm => first | k_is | rfl | decide +kernel)
    (case yGrid_kW => first | k_is | rfl | decide +kernel)
    (case yGrid_sub => first | k_is | rfl | decide +kernel)
    (case yGrid_sup => first | k_is | rfl | decide +kernel)
    (case zNoName_L => k_is)
    (case zNoName_b => first | rfl | decide +kernel)
    (case zNoName_sa => k_is)
    (case zNoName_tI => k_is)
    (case zNoName_no0 => k_is)
    (case zNoName_ex => k_is)
    (case zNoName_ty => k_is)
    (case zNoName_k => k_is)
    (case zNoName_cl => k_is)
    (case zNoName_ga => k_is)
    (case zNoName_gg => k_is)
    (case zNoName_hd => k_is)
    (case zNoName_ha => k_is)
    (case zNoName_hm => k_is)
    (case zNoName_self => first | k_is | rfl | decide +kernel)
    (case zNothing_ei => k_exc)
    (case zNothing_kN => first | k_is | rfl | decide +kernel)
    (case zNothing_ex => k_is)
    (case zNothing_ty => k_is)
    (case zNothing_k => k_is)
    (case zNothing_cl => k_is)
    (case zNothing_ga => k_is)
    (case zNothing_gg => k_is)
    (case zNothing_hd => k_is)
    (case zNothing_ha => k_is)
    (case zNothing_hm => k_is)
    (case zNothing_self => first | k_is | rfl | decide +kernel)
    (case y_fdrop => first | k_is | rfl | decide +kernel)
    (case y_fredo => first | k_is | rfl | decide +kernel)
    (case y_ftwin => first | k_is | rfl | decide +kernel)
    (case y_fsetitem => first | k_is | rfl | decide +kernel)
    (case y_nq => first | k_is | rfl | decide +kernel)
