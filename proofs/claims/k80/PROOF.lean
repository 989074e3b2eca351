import PyProof.Rows.All
import Wide.All
import OpenK.AllK
import Wide.FinOn
import HandS.Walk
import KE.DatumOrd
import KE.KDictZip
import KE.GoesMore
import HandS.ForMost
import HandS.ForExc
import HandS.Star
import HandS.Gcd
import HandS.Wide
import HandS.IsInst
import HandS.Style
import HandS.Codes
import HandS.Sort
import HandS.TupAny
import HandS.OwnEq
import HandS.ClsMeth
import HandS.MakeKw
import HandS.MakeKwOnly
import HandS.IterVal
import HandS.Lambda
import KE.KOwnIter
import HandS.EndTab
import KE.KExcIs
import KE.DataMinMax
import HandS.AnyAll
import HandS.Zip
import HandS.Property
import HandS.ExcInit
import HandS.ExcIs
import HandS.WordsExc
import KE.KSuper
import HandS.FStr
import HandS.Text
import HandS.StrMore
import HandS.StrSplit
import KE.KOpsOwn
import HandS.Steps
import HandS.Flow
import HandS.Dict
import HandS.WordsDict
import PyProof.MeetsSeq2
import HandS.RaiseFrom
import HandS.ExcInitHot
import HandS.ExcCtx
import HandS.SuiteRaise
import HandS.HotCalls
import HandS.Hot
import HandS.SortRule
import HandS.More
import KE.SortData
import KE.SortLaws
import PySem.Challenge.RW_wheelreach_k80_rows_stocked
set_option Elab.async false
set_option linter.all false
set_option maxRecDepth 100000
set_option maxHeartbeats 4000000
/-! Numbers: divisors, multiples, remainders put together, as plain functions, and what holds of them. -/
namespace NM

/-! ### common, multiple -/
def gcdL (ns : List Int) : Nat := ns.foldl (fun g n => Nat.gcd g n.natAbs) 0
def lcmL (ns : List Int) : Nat := ns.foldl (fun g n => Nat.lcm g n.natAbs) 1
theorem gcdL_snoc (l : List Int) (z : Int) : gcdL (l ++ [z]) = Nat.gcd (gcdL l) z.natAbs := by
  unfold gcdL; rw [List.foldl_append]; rfl
theorem lcmL_snoc (l : List Int) (z : Int) : lcmL (l ++ [z]) = Nat.lcm (lcmL l) z.natAbs := by
  unfold lcmL; rw [List.foldl_append]; rfl
theorem take_snoc {α : Type} : ∀ {l : List α} {i : Nat} {x : α}, l[i]? = some x → l.take (i + 1) = l.take i ++ [x]
  | [], i, x, h => by simp at h
  | a :: l, 0, x, h => by
    have e : a = x := Option.some.inj h
    subst e
    rfl
  | a :: l, i + 1, x, h => by
    have ih := take_snoc (l := l) (i := i) (x := x) h
    show a :: l.take (i + 1) = a :: l.take i ++ [x]
    rw [ih]
    rfl
theorem lcm_step {f n : Int} (hf : 0 < f) (hn : 0 < n) : f / ((Nat.gcd f.natAbs n.natAbs : Nat) : Int) * n = ((Nat.lcm f.natAbs n.natAbs : Nat) : Int) := by
  obtain ⟨a, rfl⟩ : ∃ a : Nat, f = (a : Int) := ⟨f.toNat, by omega⟩
  obtain ⟨b, rfl⟩ : ∃ b : Nat, n = (b : Int) := ⟨n.toNat, by omega⟩
  simp only [Int.natAbs_natCast]
  have h := Nat.gcd_dvd_left a b
  rw [← Int.natCast_ediv, ← Int.natCast_mul]
  congr 1
  unfold Nat.lcm
  rw [Nat.mul_comm (a / _) b, Nat.mul_comm a b, Nat.mul_div_assoc _ h]
theorem lcmL_pos {l : List Int} (h : ∀ z ∈ l, 0 < z) : 0 < lcmL l := by
  unfold lcmL
  suffices ∀ (l : List Int) (a : Nat), 0 < a → (∀ z ∈ l, 0 < z) → 0 < l.foldl (fun g n => Nat.lcm g n.natAbs) a from this l 1 (by decide) h
  intro l
  induction l with
  | nil => intro a ha _; exact ha
  | cons z l ih =>
    intro a ha h
    refine ih _ ?_ (fun y hy => h y (List.mem_cons_of_mem _ hy))
    have hz := h z List.mem_cons_self
    exact Nat.lcm_pos ha (by omega)
theorem lcm_le_mul {a b : Nat} (ha : 0 < a) (hb : 0 < b) : Nat.lcm a b ≤ a * b := Nat.le_of_dvd (Nat.mul_pos ha hb) (Nat.lcm_dvd_mul a b)

/-! ### how far from a multiple -/
def apartI (d p : Int) : Int := if p - d % p < d % p then p - d % p else d % p
theorem apart_nn {d p : Int} (hp : 0 < p) : 0 ≤ apartI d p := by
  unfold apartI
  have h1 := Int.emod_nonneg d (show p ≠ 0 by omega)
  have h2 := Int.emod_lt_of_pos d hp
  split <;> omega
theorem apart_half {d p : Int} (hp : 0 < p) : 2 * apartI d p ≤ p := by
  unfold apartI
  have h1 := Int.emod_nonneg d (show p ≠ 0 by omega)
  have h2 := Int.emod_lt_of_pos d hp
  split <;> omega
/-- the nearest multiple is that far away -/
theorem apart_at {d p : Int} (hp : 0 < p) : ∃ k, d = p * k + apartI d p ∨ d = p * k - apartI d p := by
  have e := Int.mul_ediv_add_emod d p
  unfold apartI
  split
  · refine ⟨d / p + 1, .inr ?_⟩
    rw [Int.mul_add]; omega
  · exact ⟨d / p, .inl (by omega)⟩
/-- no multiple is nearer -/
theorem apart_le {d p : Int} (hp : 0 < p) (k a : Int) (h : d = p * k + a) : apartI d p ≤ (a.natAbs : Int) := by
  have e1 : d % p = a % p := by rw [h, Int.add_comm, Int.add_mul_emod_self_left]
  have h1 := Int.emod_nonneg a (show p ≠ 0 by omega)
  have h2 := Int.emod_lt_of_pos a hp
  have e := Int.mul_ediv_add_emod a p
  unfold apartI
  rw [e1]
  by_cases h0 : 0 ≤ a
  · have : a % p ≤ a := by
      have : 0 ≤ a / p := Int.ediv_nonneg h0 (by omega)
      have := Int.mul_nonneg (show 0 ≤ p by omega) this
      omega
    split <;> omega
  · have hq : a / p ≤ -1 := by
      have := Int.ediv_lt_of_lt_mul hp (show a < 0 * p by omega)
      omega
    have : p * (a / p) ≤ p * (-1) := Int.mul_le_mul_of_nonneg_left hq (by omega)
    split <;> omega
theorem apart_neg {d p : Int} (hp : 0 < p) : apartI (-d) p = apartI d p := by
  have aux : ∀ x : Int, apartI (-x) p ≤ apartI x p := fun x => by
    obtain ⟨k, h | h⟩ := apart_at (d := x) hp
    · have := apart_le (d := -x) hp (-k) (-apartI x p) (by rw [Int.mul_neg]; omega)
      have := apart_nn (d := x) hp
      omega
    · have := apart_le (d := -x) hp (-k) (apartI x p) (by rw [Int.mul_neg]; omega)
      have := apart_nn (d := x) hp
      omega
  have h1 := aux d
  have h2 := aux (-d)
  rw [Int.neg_neg] at h2
  omega
theorem apart_round {d p : Int} (hp : 0 < p) (k : Int) : apartI (d + p * k) p = apartI d p := by
  unfold apartI
  rw [Int.add_mul_emod_self_left]
theorem apart_tri {d e p : Int} (hp : 0 < p) : apartI (d + e) p ≤ apartI d p + apartI e p := by
  have n1 := apart_nn (d := d) hp
  have n2 := apart_nn (d := e) hp
  obtain ⟨k, h⟩ := apart_at (d := d) hp
  obtain ⟨l, g⟩ := apart_at (d := e) hp
  have fin : ∀ a : Int, d + e = p * (k + l) + a → (a.natAbs : Int) ≤ apartI d p + apartI e p → apartI (d + e) p ≤ apartI d p + apartI e p := fun a ha hb =>
    Int.le_trans (apart_le hp (k + l) a ha) hb
  have ex : p * (k + l) = p * k + p * l := Int.mul_add _ _ _
  rcases h with h | h <;> rcases g with g | g
  · exact fin (apartI d p + apartI e p) (by rw [ex]; omega) (by omega)
  · exact fin (apartI d p - apartI e p) (by rw [ex]; omega) (by omega)
  · exact fin (-apartI d p + apartI e p) (by rw [ex]; omega) (by omega)
  · exact fin (-apartI d p - apartI e p) (by rw [ex]; omega) (by omega)
theorem apart_mult {p k : Int} (hp : 0 < p) : apartI (p * k) p = 0 := by
  unfold apartI
  rw [Int.mul_emod_right]
  split <;> omega
theorem apart_self {p : Int} (hp : 0 < p) : apartI p p = 0 := by
  have h := apart_mult (k := 1) hp
  rwa [Int.mul_one] at h
theorem apart_reach {d p : Int} (hp : 0 < p) : apartI (d - apartI d p) p = 0 ∨ apartI (d + apartI d p) p = 0 := by
  obtain ⟨k, h | h⟩ := apart_at (d := d) hp
  · left
    have e : d - apartI d p = p * k := by omega
    rw [e]; exact apart_mult hp
  · right
    have e : d + apartI d p = p * k := by omega
    rw [e]; exact apart_mult hp

theorem gcd_emod (a b : Int) : Int.gcd (a % b) b = Int.gcd a b := by
  have e := Int.mul_ediv_add_emod a b
  have h : a % b = a - a / b * b := by rw [Int.mul_comm]; omega
  rw [h]; exact Int.gcd_sub_mul_right_left _ _ _
/-! ### the inverse, by Euclid's division -/
structure Euc (number divisor left right found following : Int) : Prop where
  l : 0 < left
  r : 0 ≤ right
  rl : right < left ∨ left = divisor
  le : left ≤ divisor
  rd : right < divisor
  g : Nat.gcd left.natAbs right.natAbs = Nat.gcd divisor.natAbs number.natAbs
  c1 : divisor ∣ found * number - left
  c2 : divisor ∣ following * number - right
  s : (found ≤ 0 ∧ 0 ≤ following ∧ left * following - right * found = divisor) ∨ (0 ≤ found ∧ following ≤ 0 ∧ right * found - left * following = divisor)
theorem Euc.start {number divisor : Int} (hd : 0 < divisor) : Euc number divisor divisor (number % divisor) 0 1 where
  l := hd
  r := Int.emod_nonneg _ (by omega)
  rl := .inr rfl
  le := Int.le_refl _
  rd := Int.emod_lt_of_pos _ hd
  g := by
    have e := Int.mul_ediv_add_emod number divisor
    have h : ((Nat.gcd divisor.natAbs (number % divisor).natAbs : Nat) : Int) = ((Nat.gcd divisor.natAbs number.natAbs : Nat) : Int) := by
      show ((Int.gcd divisor (number % divisor) : Nat) : Int) = ((Int.gcd divisor number : Nat) : Int)
      congr 1
      rw [Int.gcd_comm, Int.gcd_comm divisor number]
      exact gcd_emod _ _
    exact Int.natCast_inj.mp h
  c1 := ⟨-1, by omega⟩
  c2 := by
    have e := Int.mul_ediv_add_emod number divisor
    exact ⟨number / divisor, by omega⟩
  s := .inl ⟨Int.le_refl _, by omega, by omega⟩
theorem Euc.turn {number divisor left right found following : Int} (E : Euc number divisor left right found following) (h : right ≠ 0) :
    Euc number divisor right (left - left / right * right) following (found - left / right * following) := by
  have hr : 0 < right := by have := E.r; omega
  have e := Int.mul_ediv_add_emod left right
  have em : left - left / right * right = left % right := by rw [Int.mul_comm]; omega
  have h1 := Int.emod_nonneg left (show right ≠ 0 by omega)
  have h2 := Int.emod_lt_of_pos left hr
  have hq : 0 ≤ left / right := Int.ediv_nonneg (Int.le_of_lt E.l) (by omega)
  have lrd := E.rd
  refine ⟨hr, by omega, .inl (by omega), by omega, by omega, ?_, E.c2, ?_, ?_⟩
  · rw [← E.g, em]
    show Int.gcd right (left % right) = Int.gcd left right
    rw [Int.gcd_comm]
    exact gcd_emod _ _
  · obtain ⟨a, ha⟩ := E.c1
    obtain ⟨b, hb⟩ := E.c2
    refine ⟨a - left / right * b, ?_⟩
    rw [Int.sub_mul, Int.mul_sub]
    have x1 : left / right * following * number = left / right * (following * number) := Int.mul_assoc _ _ _
    have x2 : divisor * (left / right * b) = left / right * (divisor * b) := by rw [← Int.mul_assoc, Int.mul_comm divisor, Int.mul_assoc]
    rw [x1, x2, ← hb, ← ha, Int.mul_sub]
    omega
  · have hm : ∀ x : Int, 0 ≤ x → 0 ≤ left / right * x := fun x hx => Int.mul_nonneg hq hx
    have hn : ∀ x : Int, x ≤ 0 → left / right * x ≤ 0 := fun x hx => by
      have := Int.mul_nonneg hq (show 0 ≤ -x by omega)
      rw [Int.mul_neg] at this
      omega
    have y1 : right * (found - left / right * following) = right * found - right * (left / right * following) := Int.mul_sub _ _ _
    have y2 : (left - left / right * right) * following = left * following - left / right * right * following := Int.sub_mul _ _ _
    have y3 : left / right * right * following = right * (left / right * following) := by rw [Int.mul_comm (left / right) right, Int.mul_assoc]
    rcases E.s with ⟨s1, s2, s3⟩ | ⟨s1, s2, s3⟩
    · refine .inr ⟨s2, by have := hm _ s2; omega, ?_⟩
      rw [y1, y2, y3]; omega
    · refine .inl ⟨s2, by have := hn _ s2; omega, ?_⟩
      rw [y1, y2, y3]; omega
theorem Euc.less {number divisor left right found following : Int} (E : Euc number divisor left right found following) (h : right ≠ 0) : (left - left / right * right).toNat < right.toNat := by
  have hr : 0 < right := by have := E.r; omega
  have e := Int.mul_ediv_add_emod left right
  have em : left - left / right * right = left % right := by rw [Int.mul_comm]; omega
  have h1 := Int.emod_nonneg left (show right ≠ 0 by omega)
  have h2 := Int.emod_lt_of_pos left hr
  omega
/-- the sizes -/
theorem Euc.size {number divisor left right found following : Int} (E : Euc number divisor left right found following) : following.natAbs ≤ divisor.natAbs ∧ (right ≠ 0 → found.natAbs ≤ divisor.natAbs) := by
  have l := E.l
  have r := E.r
  have key : ∀ a b c e : Int, 0 < a → 0 ≤ b → 0 ≤ c → 0 ≤ e → a * c + b * e = divisor → c ≤ divisor ∧ (b ≠ 0 → e ≤ divisor) := fun a b c e ha hb hc he h => by
    have p1 := Int.mul_nonneg hb he
    have p2 : c ≤ a * c := by
      have := Int.mul_le_mul_of_nonneg_right (show 1 ≤ a by omega) hc
      omega
    refine ⟨by omega, fun hb0 => ?_⟩
    have p3 : e ≤ b * e := by
      have := Int.mul_le_mul_of_nonneg_right (show 1 ≤ b by omega) he
      omega
    have p4 := Int.mul_nonneg (Int.le_of_lt ha) hc
    omega
  rcases E.s with ⟨s1, s2, s3⟩ | ⟨s1, s2, s3⟩
  · have k := key left right following (-found) l r s2 (by omega) (by rw [Int.mul_neg]; omega)
    exact ⟨by omega, fun h => by have := k.2 h; omega⟩
  · have k := key left right (-following) found l r (by omega) s1 (by rw [Int.mul_neg]; omega)
    exact ⟨by omega, fun h => by have := k.2 h; omega⟩
theorem Euc.fin {number divisor left found following : Int} (E : Euc number divisor left 0 found following) (hg : Nat.gcd divisor.natAbs number.natAbs = 1) : divisor ∣ found * number - 1 := by
  have g := E.g
  rw [hg] at g
  have l := E.l
  have : left = 1 := by
    simp at g
    omega
  have c := E.c1
  rwa [this] at c
end NM

namespace My
open PySem PySem.Spec PyProof.Rows L2
section
/-! ### a method that ends in super().__init__(..) -/
/-- names of a method whose one free name is the class -/
structure SupScope (N ps : List Str) (sc : Scope) : Prop where
  kind : sc.kind = .function
  co : sc.isCoroutine = false
  gen : sc.isGenerator = false
  nd : N.Nodup
  pre : N.take ps.length = ps
  par : ∀ x ∈ ps, sc.names.lookup x = some .local
  nocell : ∀ y ∈ sc.names, y.2 ≠ .cell
  free : ∀ y ∈ sc.names, y.2 = .free → y.1 = "__class__"
/-- the context of such a method's body -/
def cxS (CX : CXT) (P : Program) (w : World) (K : PySem.W.Frag) (mg : Str → Option Value) (base : Heap) (N : List Str) (qual : Str) (scope : Scope) (f : Addr) (cd : Value) (cc : Addr) (A : Around) (outer : List Env) (s : Shared) (H : Hp) (E : XK) : Cx where
  prog := P
  w := w
  K := K
  mg := mg
  base := base
  A := A.deeper (PySem.W.ksEnv qual scope s.heap.objs.size f cd cc)
  N := N
  s_0 := s
  H_0 := H
  env := PySem.W.ksEnv qual scope s.heap.objs.size f cd cc
  outer := outer
  stack := PySem.W.ksEnv qual scope s.heap.objs.size f cd cc :: outer
  ex := []
  calm := true
  fn := fun _ => false
  pn := []
  xe := fun e s' => wpAny (model P w) (A.deeper (PySem.W.ksEnv qual scope s.heap.objs.size f cd cc)) (leaving (PySem.W.ksEnv qual scope s.heap.objs.size f cd cc) e) (fun _ s'' => CX outer H s E e s'') (fun e' s'' => CX outer H s E e' s'') s'
theorem look_nd {x : Str} {u : Value} : ∀ {l : List (Str × Value)}, (l.map (·.1)).Nodup → (x, u) ∈ l → l.lookup x = some u
  | [], _, h => by cases h
  | (y, v) :: l, nd, h => by
    rw [List.map_cons] at nd
    obtain ⟨n1, n2⟩ := List.nodup_cons.mp nd
    rcases List.mem_cons.mp h with e | e
    · cases e
      exact List.lookup_cons_self
    · have ne : (x == y) = false := by
        rw [beq_eq_false_iff_ne]
        rintro rfl
        exact n1 (List.mem_map.mpr ⟨_, e, rfl⟩)
      rw [List.lookup_cons, ne]
      exact look_nd n2 e
theorem base_at {X : Cx} {pins : List (Addr × Obj)} {σ : L2.St} {H : Hp} {s : Shared} {a : Addr} {o : Obj} (I : Inv X pins σ H s) (e : X.K.lookup a = some o) : s.heap.get? a = some o := I.kIn _ _ e
theorem inv_sup {CX : CXT} {P : Program} {w : World} {K : PySem.W.Frag} {mg : Str → Option Value} {base : Heap} {N ps : List Str} {qual : Str} {scope : Scope} {f cc : Addr} {cd : Value} {A : Around} {outer : List Env} {s : Shared} {h1 : Heap} {t1 : Nat} {H : Hp} {E : XK} {us : List Value} {vs : List V} {oc : Obj} {v0 : Option Value}
    (S : SupScope N ps scope) (hd : A.handled = none) (e0 : Env0 P w K mg base A outer s H) (hl : vs.length = ps.length) (r : Vals vs us) (hcc : K.lookup cc = some oc) (hoc : oc.data = .cell v0)
    (hns : h1.Ns s.heap.objs.size (fun x => (ps.zip us).reverse.lookup x)) (hk : ∀ b o, s.heap.get? b = some o → h1.get? b = some o) :
    Inv (cxS CX P w K mg base N qual scope f cd cc A outer s H E) [] (start N vs) H { s with heap := h1, toks := t1 } := by
  have hpl : ps.length ≤ N.length := by have := congrArg List.length S.pre; rw [List.length_take] at this; omega
  have noA : ∀ b : Addr, b ∉ (cxS CX P w K mg base N qual scope f cd cc A outer s H E).ex := fun b z => absurd (show b ∈ ([] : List Addr) from z) (by simp)
  have cl : ∀ (y : Str) (c : Addr), (cxS CX P w K mg base N qual scope f cd cc A outer s H E).env.cells.lookup y = some c → y = "__class__" ∧ c = cc := fun y c h => by
    have h : ([("__class__", cc)] : List (Str × Addr)).lookup y = some c := h
    rw [List.lookup_cons] at h
    cases e : (y == ("__class__" : Str)) with
    | true =>
      rw [e] at h
      cases h
      exact ⟨eq_of_beq e, rfl⟩
    | false => rw [e] at h; cases h
  have bc : base.get? cc = some oc := e0.mod.kin _ _ hcc
  have sc' := e0.bs _ _ bc
  refine ⟨⟨e0.mod, S.kind, rfl, rfl, Nat.le_refl _, fun y z c a b => ?_, fun y hy => ?_, fun y c z => (nomatch z), fun _ => hd, Around.frames_deeper e0.frames, .inr ⟨rfl, rfl⟩, fun b z => absurd z (noA b), e0.bs, e0.bsz, fun b _ _ => noA b, fun b z => absurd z (noA b), e0.funs, e0.frf⟩,
    rfl, e0.bare, Un.kept hk, ⟨_, hns, fun i y v h1 h2 h3 => ?_⟩, fun y c h => ?_, e0.hok.fresh (Nat.le_refl _), fun y c h => ?_, fun p hp => absurd (show p ∈ ([] : List (Addr × Obj)) from hp) (by simp), e0.hok.kept hk, ?_⟩
  · rw [(cl y c a).1, (cl z c b).1]
  · have hy : scope.names.lookup y = some .cell ∨ scope.names.lookup y = some .free := hy
    rcases hy with hy | hy
    · exact absurd rfl (S.nocell _ (PySem.mem_of_lookup hy))
    · have := S.free _ (PySem.mem_of_lookup hy) rfl
      dsimp only at this
      subst this
      exact ⟨cc, rfl⟩
  · have hi : i < vs.length := by
      unfold L2.start at h2
      by_cases hi : i < vs.length
      · exact hi
      · rw [List.getElem?_append_right (by simpa using hi)] at h2
        rw [List.getElem?_replicate] at h2
        split at h2 <;> cases h2
    have ha : vs[i]? = some v := by
      unfold L2.start at h2
      rw [List.getElem?_append_left (by simpa using hi), List.getElem?_map] at h2
      cases e : vs[i]? with
      | none => rw [e] at h2; cases h2
      | some a => rw [e] at h2; cases h2; rfl
    obtain ⟨u, hu, rv⟩ := r.get ha
    have hp : ps[i]? = some y := by
      rw [← S.pre, List.getElem?_take_of_lt (by omega)]; exact h1
    have ndP : ps.Nodup := by rw [← S.pre]; exact S.nd.sublist (List.take_sublist _ _)
    refine ⟨u, rv, .inl ⟨S.par y (List.mem_of_getElem? hp), look_nd ?_ ?_⟩⟩
    · rw [List.map_reverse]
      have hu2 : us.length = ps.length := by rw [← r.length]; exact hl
      rw [show (ps.zip us).map (·.1) = ps from List.map_fst_zip (by omega)]
      exact List.pairwise_reverse.mpr (List.Pairwise.imp (fun h => Ne.symm h) ndP)
    · refine List.mem_reverse.mpr (List.mem_of_getElem? (i := i) ?_)
      rw [List.getElem?_zip_eq_some]
      exact ⟨hp, hu⟩
  · obtain ⟨_, rfl⟩ := cl y c h
    exact ⟨v0, oc, hk _ _ sc'.1, hoc⟩
  · obtain ⟨_, rfl⟩ := cl y c h
    exact sc'.2
  · unfold L2.start
    show _ = N.length
    rw [List.length_append, List.length_map, List.length_replicate]
    omega
/-- statements run where the code on top is this body's -/
structure PSup (X : Cx) (whole st : List Stmt) (t : TS) : Prop where
  run : ∀ (pins : List (Addr × Obj)) (s : Shared) (σ : L2.St) (H : Hp) (D : Ends), Inv X pins σ H s → t D σ H → _root_.PySem.wpAt (model X.prog X.w) X.A (.func whole X.env) (execs st X.env) (SP X pins D) X.xe s
theorem psup_cons {X : Cx} {whole : List Stmt} {st : Stmt} {rest : List Stmt} {t u : TS} (h1 : PS X st t) (h2 : PSup X whole rest u) : PSup X whole (st :: rest) (tSeq t u) := by
  refine ⟨fun pins s σ H D I h => ?_⟩
  refine ks_wpAt_execs_cons (wpAt_of_wpAny (thn (h1.run pins s σ H { D with nx := u D } I h) fun f s1 q => ?_))
  cases f with
  | next =>
    obtain ⟨σ', H', I', q⟩ := q
    exact h2.run pins s1 σ' H' D I' q
  | ret v => exact q
  | brk => exact q
  | cont => exact q
theorem fn_sup {CX : CXT} {P : Program} {w : World} {K : PySem.W.Frag} {mg : Str → Option Value} {base : Heap} {k : Nat} {f cc : Addr} {name qual : Str} {params : Arguments} {body : List Stmt} {scope : Scope} {dV kV doc pm cdv ct oc : Value} {an od : Option Addr}
    {osl : Array (Option Value)} {N ps : List Str} {sp : Sp} {oc' : Obj} {v0 : Option Value} (lk : K.lookup f = some ⟨oc, od, .func (PySem.W.ksFn name qual params body scope dV kV doc pm an cdv ct cc), osl⟩) (hcd : PySem.W.codeIn K cdv qual = true) (S : SupScope N ps scope)
    (hcc : K.lookup cc = some oc') (hoc : oc'.data = .cell v0)
    (len : ∀ vs H Q E, sp vs H Q E → vs.length = ps.length)
    (hbody : ∀ (A : Around) (outer : List Env) (s : Shared) (H : Hp) (vs : List V) (Q : VK) (E : XK), Room k (A.deeper (PySem.W.ksEnv qual scope s.heap.objs.size f cdv cc)) → sp vs H Q E →
      ∃ t, PSup (cxS CX P w K mg base N qual scope f cdv cc A outer s H E) body body t ∧ t { nx := fun _ H' => Q .non H', rt := Q } (start N vs) H) :
    FnOk P w K mg base CX (k + 1) f (PySem.W.ksFn name qual params body scope dV kV doc pm an cdv ct cc) ps sp := by
  refine ⟨len, fun A outer s H args us vs Q E hr e0 hb r hsp => ?_⟩
  have hl := len _ _ _ _ hsp
  have KX : K.In s.heap := e0.mod.kin.keeps fun b o e => (e0.bs b o e).1
  have lim : s.heap.NoLimit := e0.mod.nolimit.keeps fun b o e => (e0.bs b o e).1
  refine ks_codeAny_call_defAt hr.depth (KX _ _ lk) rfl lim (PySem.W.codeRec_of KX hcd) rfl hb S.nocell (fun y hy => S.par _ (List.of_mem_zip (show (y.1, y.2) ∈ ps.zip us from hy)).1) (fun h1 hns hk => ?_) S.co S.gen S.kind
  obtain ⟨t, ht, hq⟩ := hbody A outer s H vs Q E (hr.deeper _) hsp
  have I : Inv (cxS CX P w K mg base N qual scope f cdv cc A outer s H E) [] (start N vs) H { s with heap := h1, toks := s.toks + (ps.zip us).length } := inv_sup S hr.hd e0 hl r hcc hoc hns hk
  refine ks_wpAt_mono (ht.run [] _ (start N vs) H _ I hq) (fun fl s' hs => ?_) fun e s' hs => hs
  have fin : ∀ {σ' : L2.St} {H' : Hp} {v : V} {u : Value}, Inv (cxS CX P w K mg base N qual scope f cdv cc A outer s H E) [] σ' H' s' → RelV v u → Q v H' → CE outer P w H s Q u s' :=
    fun {σ' H' v u} J rv q => ⟨v, H', J.os, J.bare, J.base, J.hok, rv, q⟩
  cases fl with
  | ret u =>
    obtain ⟨v, σ', H', J, rv, q⟩ := hs
    exact fin J rv q
  | next =>
    obtain ⟨σ', H', J, q⟩ := hs
    exact fin (v := V.non) (u := Value.none) J rfl q
  | brk =>
    obtain ⟨_, _, _, q⟩ := hs
    exact False.elim q
  | cont =>
    obtain ⟨_, _, _, q⟩ := hs
    exact False.elim q
/-- what of the text super() reads, in the method f of the class at D -/
structure SupOf (P : Program) (K : PySem.W.Frag) (mg : Str → Option Value) (f cda cc D f2 : Addr) (sn : Str) : Prop where
  fn : ∃ (oc : Value) (od : Option Addr) (fd : FuncData) (osl : Array (Option Value)) (ar : Arg), K.lookup f = some ⟨oc, od, .func fd, osl⟩ ∧ (fd.params.posonlyargs ++ fd.params.args).head? = some ar ∧ ar.arg = sn
  code : ∃ (ccl : Value) (cdd : Option Addr) (vs : Array Value) (ccs : Array (Option Value)) (file : Str) (tf : Tok), K.lookup cda = some ⟨ccl, cdd, .fields vs, ccs⟩ ∧ vs[2]? = some (.str file tf) ∧ ((P.main.file : Str) == file) = true
  cell : ∃ (cl : Value) (cld : Option Addr) (csl : Array (Option Value)), K.lookup cc = some ⟨cl, cld, .cell (some (.ref D)), csl⟩
  cls : ∃ cd, PySem.W.clsIn K D = some cd
  nosup : mg "super" = none
  top : (P.main.scope.names.lookup ("super" : Str)).isSome = false
  any : PySem.W.nsIn K PySem.cStatics "thirdparty.any" = some none
  fn2 : PySem.W.typeIn K (.ref f2) = some (.type "function")
  fi : PySem.W.fnIn K f2 = true
/-- the program's file, and that it lays no super of its own -/
structure PrF (fl : Str) (P : Program) : Prop where
  file : ((P.main.file : Str) == fl) = true
  top : (P.main.scope.names.lookup ("super" : Str)).isSome = false
/-- the same without the program -/
structure SupK (K : PySem.W.Frag) (mg : Str → Option Value) (fl : Str) (cda cc D f2 : Addr) : Prop where
  code : ∃ (ccl : Value) (cdd : Option Addr) (vs : Array Value) (ccs : Array (Option Value)) (tf : Tok), K.lookup cda = some ⟨ccl, cdd, .fields vs, ccs⟩ ∧ vs[2]? = some (.str fl tf)
  cell : ∃ (cl : Value) (cld : Option Addr) (csl : Array (Option Value)), K.lookup cc = some ⟨cl, cld, .cell (some (.ref D)), csl⟩
  cls : ∃ cd, PySem.W.clsIn K D = some cd
  nosup : mg "super" = none
  any : PySem.W.nsIn K PySem.cStatics "thirdparty.any" = some none
  fn2 : PySem.W.typeIn K (.ref f2) = some (.type "function")
  fi : PySem.W.fnIn K f2 = true
/-- a def of the text that closes over its class alone -/
structure FunS (K : PySem.W.Frag) (x qual : Str) (st : Stmt) (f cda cc : Addr) (fd : FuncData) : Prop where
  ex : ∃ (oc : Value) (od : Option Addr) (kV doc pm : Value) (an : Option Addr) (ct : Value) (osl : Array (Option Value)),
    fd = PySem.W.ksFn x qual (defArgs st) (defBody st) (defScope st) .none kV doc pm an (.ref cda) ct cc ∧ K.lookup f = some ⟨oc, od, .func fd, osl⟩ ∧ PySem.W.codeIn K (.ref cda) qual = true
  kp : PySem.W.keepIn K (.ref f) = true
theorem SupK.of {fl : Str} {P : Program} (h : PrF fl P) {K : PySem.W.Frag} {mg : Str → Option Value} {x qual : Str} {st : Stmt} {f cda cc D f2 : Addr} {fd : FuncData} {sn : Str} (k : SupK K mg fl cda cc D f2) (F : FunS K x qual st f cda cc fd)
    (hp : (((defArgs st).posonlyargs ++ (defArgs st).args).head?.map (·.arg)) = some sn) : SupOf P K mg f cda cc D f2 sn := by
  obtain ⟨oc, od, kV, doc, pm, an, ct, osl, rfl, lk, hcd⟩ := F.ex
  obtain ⟨ar, ha, hs⟩ := Option.map_eq_some_iff.mp hp
  obtain ⟨c1, c2, vs, c4, tf, e1, e2⟩ := k.code
  exact ⟨⟨_, _, _, _, ar, lk, ha, hs⟩, ⟨c1, c2, vs, c4, fl, tf, e1, e2, h.file⟩, k.cell, k.cls, k.nosup, h.top, k.any, k.fn2, k.fi⟩
theorem FunS.okX {P : Program} {w : World} {K : PySem.W.Frag} {mg : Str → Option Value} {base : Heap} {fl x qual : Str} {st : Stmt} {f cda cc D f2 : Addr} {fd : FuncData} {N ps : List Str} {k : Nat} {sp : Sp} (F : FunS K x qual st f cda cc fd) (S : SupScope N ps (defScope st)) (sk : SupK K mg fl cda cc D f2)
    (len : ∀ vs H Q E, sp vs H Q E → vs.length = ps.length)
    (hbody : ∀ (A : Around) (outer : List Env) (s : Shared) (H : Hp) (vs : List V) (Q : VK) (E : XK), Room k (A.deeper (PySem.W.ksEnv qual (defScope st) s.heap.objs.size f (.ref cda) cc)) → sp vs H Q E →
      ∃ t, PSup (cxS (L2.CX P w) P w K mg base N qual (defScope st) f (.ref cda) cc A outer s H E) (defBody st) (defBody st) t ∧ t { nx := fun _ H' => Q .non H', rt := Q } (start N vs) H) : FnOk P w K mg base (L2.CX P w) (k + 1) f fd ps sp := by
  obtain ⟨oc, od, kV, doc, pm, an, ct, osl, rfl, lk, hcd⟩ := F.ex
  obtain ⟨c1, c2, c3, hcc⟩ := sk.cell
  exact fn_sup lk hcd S hcc rfl len hbody
theorem FunS.binds {K : PySem.W.Frag} {x qual : Str} {st : Stmt} {f cda cc : Addr} {fd : FuncData} {ps : List Str} (F : FunS K x qual st f cda cc fd)
    (h : ∀ (kV doc pm : Value) (an : Option Addr) (ct : Value) (us : List Value), us.length = ps.length → bindArgs (PySem.W.ksFn x qual (defArgs st) (defBody st) (defScope st) .none kV doc pm an (.ref cda) ct cc) ⟨us, []⟩ = pure (ps.zip us)) : Binds K fd ps [] := by
  obtain ⟨oc, od, kV, doc, pm, an, ct, osl, rfl, lk, hcd⟩ := F.ex
  exact .all (h kV doc pm an ct)
theorem funS_mk {K : PySem.W.Frag} {x qual : Str} {st : Stmt} {f cda cc : Addr} {oc : Value} {od an : Option Addr} {osl : Array (Option Value)} {kV doc pm ct : Value} (l : K.lookup f = some ⟨oc, od, .func (PySem.W.ksFn x qual (defArgs st) (defBody st) (defScope st) .none kV doc pm an (.ref cda) ct cc), osl⟩)
    (c : PySem.W.codeIn K (.ref cda) qual = true) (k : PySem.W.keepIn K (.ref f) = true) : FunS K x qual st f cda cc (PySem.W.ksFn x qual (defArgs st) (defBody st) (defScope st) .none kV doc pm an (.ref cda) ct cc) := ⟨⟨oc, od, kV, doc, pm, an, ct, osl, rfl, l, c⟩, k⟩
/-- .. of an instance of the class at C -/
structure SupAt (K : PySem.W.Frag) (C D f2 : Addr) (m : Str) : Prop where
  sub : PySem.W.mroIn K C (.ref D) = some true
  at_ : PySem.W.ks_superIn K C D m = some (some (.ref f2))
  cl : ∃ cd, PySem.W.clsIn K C = some cd
def tSup (K : PySem.W.Frag) (D f2 : Addr) (m : Str) (sp2 : Sp) (E : XK) (t : TA) : TS := fun Dn σ H => ∃ (x C dx : Addr) (fs : List (Str × V)), σ[0]? = some (some (V.ref x)) ∧ H x = some (.ins C dx fs) ∧ SupAt K C D f2 m ∧ t σ H fun vs H1 => sp2 (.ref x :: vs) H1 (fun _ H2 => Dn.nx σ H2) E
theorem psup_super {X : Cx} {whole : List Stmt} {CX : CXT} {k : Nat} {D f f2 cda cc : Addr} {sn m : Str} {sp2 : Sp} {E : XK} {e : Expr} {es : List Expr} {t : TA} {p0 p1 apos pos pos2 : Pos} {pl : Sem Bool}
    (so : SupOf X.prog X.K X.mg f cda cc D f2 sn) (F2 : FnR X.prog X.w X.K X.mg X.base CX k f2 sp2) (hr : Room k X.A) (hx : Passes CX X E) (ha : PA X (e :: es) t)
    (hfu : X.env.func = some f) (hco : X.env.code = .ref cda) (hcl : X.env.cells.lookup ("__class__" : Str) = some cc)
    (hks : X.env.kindOf "super" = some .globalImplicit) (hkc : X.env.kindOf "__class__" = some .free) (hk0 : X.env.kindOf sn = some .local) (hN : X.N[0]? = some sn) (hat : (m == ("__class__" : Str)) = false := by decide)
    (hboot : bootBuiltins "super" = some (.type "super") := by rfl)
    (hst : starEach (e :: es) X.env = (false, eval e X.env) :: starEach es X.env := by rfl) (hpl : (backTo pos (starEach es X.env)).any (·.1) = false := by rfl)
    (hs : swapsWith (.Call (.Attribute (.Call (.Name "super" p0) [] [] p1) m apos) (e :: es) [] pos) none pos2.line X.env = pure false := by rfl)
    (ht : eval (.Call (.Attribute (.Call (.Name "super" p0) [] [] p1) m apos) (e :: es) [] pos) X.env = (do
      let ov ← attributeBase (.Call (.Name "super" p0) [] [] p1) m X.env (eval (.Call (.Name "super" p0) [] [] p1) X.env)
      standAt apos.atName
      let (f, first) ← holding [ov] (getMethod ov m pl)
      callWith pos f first (backTo pos (starEach (e :: es) X.env)) []) := by rfl) :
    PSup X whole [.Expr (.Call (.Attribute (.Call (.Name "super" p0) [] [] p1) m apos) (e :: es) [] pos) pos2] (tSup X.K D f2 m sp2 E t) := by
  refine ⟨fun pins s σ H Dn I ⟨x, C, dx, fs, h0, hxa, sa, h⟩ => ?_⟩
  have sf := so.fn
  obtain ⟨oc, od, fd, osl, ar, hf, hp, rfl⟩ := sf
  obtain ⟨ccl, cdd, vs0, ccs, file, tf, hcode, hvs, hfile⟩ := so.code
  obtain ⟨cl, cld, csl, hcell⟩ := so.cell
  obtain ⟨cdD, hD⟩ := so.cls
  obtain ⟨cd, hc⟩ := sa.cl
  obtain ⟨oD, hD1, hD2⟩ : ∃ oD, s.heap.get? D = some oD ∧ oD.data = .cls cdD := by
    unfold PySem.W.clsIn at hD
    split at hD
    · rename_i c d cd' sl ho
      cases hD
      exact ⟨_, base_at I ho, rfl⟩
    · cases hD
  refine ks_wpAt_execs_cons (ks_wpAt_Expr_any (ks_wpAt_MethodCall (pl := pl) ?_ ht) I.quiet hs)
  refine ks_wpAt_super_base hks hkc hat hfu (base_at I hf) rfl hp hco (base_at I hcode) rfl hvs hfile so.top ?_
  obtain ⟨mb, b1, b2⟩ := I.mod.blt
  refine PySem.W.ks_loadName_global I.ok.kind hks (Calls.loadGlobal_builtin (by rw [I.ok.glob]; exact I.mod.glob.keeps I.bk) so.nosup (by rw [I.ok.blt]; exact b1.keeps I.bk) ((b2 "super" (by decide)).trans hboot) ⟨rfl, ?_⟩)
  refine wpAny_loadName_free I.ok.kind hkc hcl ⟨_, base_at I hcell, rfl⟩ ?_
  obtain ⟨mm, hn, hlk⟩ := I.loc
  obtain ⟨u, ru, lu⟩ := hlk 0 ar.arg (.ref x) hN h0 (.inl hk0)
  obtain rfl : u = Value.ref x := ru
  have hm : mm ar.arg = some (Value.ref x) := by
    rcases lu with ⟨_, q⟩ | ⟨q, _⟩
    · exact q
    · rw [hk0] at q
      rcases q with q | q <;> cases q
  refine wpAny_loadName_local I.ok.kind hk0 hn hm ?_
  refine ks_wpAny_isType_cls hD1 hD2 ⟨rfl, ?_⟩
  obtain ⟨mA, O, _, _, _, _⟩ := ins_get I.hok hxa
  obtain ⟨odx, J, _⟩ := O.look
  obtain ⟨hh, g, d, tt, os⟩ := s
  refine ks_wpAny_call_super hD1 hD2 J.at_ J.cls (fun c e => ?_) (PySem.W.looks_mroIn I.kIn sa.sub) (fun h' e k => ?_)
  · have := J.no
    unfold PySem.W.notCls at this
    rw [e] at this
    exact Bool.noConfusion this
  have I1 : Inv X ((hh.objs.size, PySem.W.ks_superObj D x C) :: pins) σ H ⟨h', g, d, tt, os⟩ := ClX.pin_new I k (Nat.le_refl _) e (fun v z => nomatch z)
  obtain ⟨mA', O', _, _, _, _⟩ := ins_get I1.hok hxa
  obtain ⟨odx', J', _⟩ := O'.look
  obtain ⟨of, hof, hofc⟩ : ∃ of, h'.get? f2 = some of ∧ of.cls = .type "function" := by
    have ht' : (X.K.lookup f2).map (·.cls) = some (.type "function") := so.fn2
    cases z : X.K.lookup f2 with
    | none => rw [z] at ht'; cases ht'
    | some of => rw [z] at ht'; exact ⟨of, base_at I1 z, Option.some.inj ht'⟩
  have hm2 := sa.at_
  unfold PySem.W.ks_superIn at hm2
  rw [hc] at hm2
  refine ks_wpAny_getMethod_super (ClX.pin_at I1) (PySem.W.looks_opaque I1.kIn so.any) (l₀ := cd.mro) (fun A Q E s k q => wpAny_bind ((PySem.W.looks_clsIn I1.kIn hc) A _ E s k (wpAny_pure q))) rfl I1.kIn hm2 hof hofc (PySem.W.ks_ne I1.kIn J' hc) hat ?_
  have I2 : Inv X ((h'.objs.size, PySem.W.methodObj (.ref f2) (.ref x)) :: (hh.objs.size, PySem.W.ks_superObj D x C) :: pins) σ H ⟨h'.push (PySem.W.methodObj (.ref f2) (.ref x)), g, d, tt + 1, os⟩ :=
    ClX.pin_new I1 (fun _ _ z => Heap.get?_push_of_some _ z) (Nat.le_refl _) (Heap.get?_push_size _ rfl) (fun v z => nomatch z)
  have hb : X.base.get? h'.objs.size = none := ClX.base_none I1 (Nat.le_refl _)
  have hL : h'.objs.size ≠ X.env.locals := (I2.pin (h'.objs.size, PySem.W.methodObj (.ref f2) (.ref x)) (List.mem_append_right _ List.mem_cons_self)).2.2.1
  refine PySem.W.callWith_M (K := X.K) (h₀ := X.base) (first := []) I.ok.mod.kin (news_at hL hb (ClX.pin_at I2)) List.mem_cons_self so.fi ?_ hst hpl
  refine thn (ha.run pos _ _ σ H _ I2 h) fun us s3 ⟨vs, H2, I3, rv, q2⟩ => ⟨⟨ClX.pin_at I3, I3.kIn⟩, ?_⟩
  refine thn (wpAny_call (PySem.W.method_call (ClX.pin_at I3) (run_fnR (us := .ref x :: us) (vs := .ref x :: vs) F2 hr hx I3 (.cons rfl rv) q2))) fun v s4 ⟨v', H4, I4, _, q4⟩ => ?_
  exact wpAt_of_wpAny (wpAny_execs_nil ⟨σ, H4, ClX.unpin (ClX.unpin I4), q4⟩)
end
end My

/-! ### decimal texts, their numbers; words and blanks -/
namespace NX
open PySem
/-- signs of a decimal number, written as it is: no sign ahead, no 0 ahead of another digit -/
def canon (a : List Nat) : Bool := !a.isEmpty && a.all (fun c => decide (48 ≤ c) && decide (c ≤ 57)) && (decide (a.head? ≠ some 48) || decide (a.length = 1))
theorem canon_ne {a : List Nat} (h : canon a = true) : a ≠ [] := by
  rintro rfl
  exact absurd h (by decide)
theorem canon_dig {a : List Nat} (h : canon a = true) : a.all (fun c => decide (48 ≤ c) && decide (c ≤ 57)) = true := by
  unfold canon at h
  rw [Bool.and_eq_true, Bool.and_eq_true] at h
  exact h.1.2
theorem canon_head {a : List Nat} (h : canon a = true) : a.head? ≠ some 48 ∨ a.length = 1 := by
  unfold canon at h
  rw [Bool.and_eq_true, Bool.or_eq_true] at h
  exact h.2.imp of_decide_eq_true of_decide_eq_true
theorem canon_mk {a : List Nat} (h1 : a ≠ []) (h2 : a.all (fun c => decide (48 ≤ c) && decide (c ≤ 57)) = true) (h3 : a.head? ≠ some 48 ∨ a.length = 1) : canon a = true := by
  unfold canon
  rw [h2, Bool.and_true, Bool.and_eq_true, Bool.or_eq_true]
  refine ⟨?_, h3.imp decide_eq_true decide_eq_true⟩
  cases a with
  | nil => exact absurd rfl h1
  | cons _ _ => rfl
theorem val_snoc (b : List Nat) (c : Nat) : NumText.digitsVal (b ++ [c]) = NumText.digitsVal b * 10 + (c - 48) := by
  unfold NumText.digitsVal
  rw [List.foldl_append]
  rfl
theorem numL0 : TL.numL 0 = [48] := TL.numL_lt (by decide)
theorem canon_num : ∀ (k : Nat) (a : List Nat), a.length = k → canon a = true → TL.numL (NumText.digitsVal a) = a := by
  intro k
  induction k with
  | zero => intro a hl h; exact absurd (List.length_eq_zero_iff.mp hl) (canon_ne h)
  | succ k ih =>
    intro a hl h
    rcases List.eq_nil_or_concat a with rfl | ⟨b, c, rfl⟩
    · exact absurd rfl (canon_ne h)
    · rw [List.concat_eq_append] at *
      have hd := canon_dig h
      rw [List.all_append, Bool.and_eq_true] at hd
      have hc : 48 ≤ c ∧ c ≤ 57 := by
        have := hd.2
        simp only [List.all_cons, List.all_nil, Bool.and_true, Bool.and_eq_true, decide_eq_true_eq] at this
        exact this
      rw [List.length_append, List.length_singleton] at hl
      cases b with
      | nil =>
        rw [List.nil_append, show NumText.digitsVal [c] = c - 48 from by unfold NumText.digitsVal; simp, TL.numL_lt (by omega)]
        congr 1
        omega
      | cons d b =>
        have hh : (d :: b).head? ≠ some 48 := by
          rcases canon_head h with z | z
          · simpa using z
          · rw [List.length_append] at z
            simp at z
        have hb : canon (d :: b) = true := canon_mk (by simp) hd.1 (.inl hh)
        have e := ih (d :: b) (by omega) hb
        have pos : 1 ≤ NumText.digitsVal (d :: b) := by
          rcases Nat.eq_zero_or_pos (NumText.digitsVal (d :: b)) with z | z
          · rw [z, numL0] at e
            rw [← e] at hh
            exact absurd rfl hh
          · exact z
        rw [val_snoc, TL.numL_step (by omega), show (NumText.digitsVal (d :: b) * 10 + (c - 48)) / 10 = NumText.digitsVal (d :: b) by omega, show (NumText.digitsVal (d :: b) * 10 + (c - 48)) % 10 = c - 48 by omega, e]
        congr 2
        omega
theorem canon_eq {a : List Nat} (h : canon a = true) : TL.numL (NumText.digitsVal a) = a := canon_num _ a rfl h
theorem numL_canon (n : Nat) : canon (TL.numL n) = true := by
  refine canon_mk (TL.numL_ne n) ?_ ?_
  · rw [List.all_eq_true]
    intro c hc
    have := TL.numL_digits n c hc
    simp only [Bool.and_eq_true, decide_eq_true_eq]
    exact this
  · induction n using Nat.strongRecOn with
    | _ n ih =>
      rcases Nat.lt_or_ge n 10 with h | h
      · right; rw [TL.numL_lt h]; rfl
      · left
        rw [TL.numL_step h]
        have ne := TL.numL_ne (n / 10)
        have e : (TL.numL (n / 10) ++ [48 + n % 10]).head? = (TL.numL (n / 10)).head? := by
          cases q : TL.numL (n / 10) with
          | nil => exact absurd q ne
          | cons _ _ => rfl
        rw [e]
        rcases ih (n / 10) (by omega) with z | z
        · exact z
        · intro w
          have l1 : TL.numL (n / 10) = [48] := by
            cases q : TL.numL (n / 10) with
            | nil => exact absurd q ne
            | cons x y =>
              rw [q] at z w
              cases y with
              | nil => cases w; rfl
              | cons _ _ => simp at z
          have v := TL.numL_val (n / 10)
          rw [l1] at v
          have v0 : NumText.digitsVal [48] = 0 := by decide
          omega
/-- what such a text of more than 13 digits is worth -/
theorem canon_great {a : List Nat} (h : canon a = true) (hl : 13 < a.length) : 10 ^ 13 ≤ NumText.digitsVal a := by
  rcases Nat.lt_or_ge (NumText.digitsVal a) (10 ^ 13) with z | z
  · have := TL.numL_len (k := 13) (by decide) z
    rw [canon_eq h] at this
    omega
  · exact z
end NX

/-! ### words of a wheel's text -/
namespace NX
open PySem
def num (i : Int) : Str := Str.ofString (toString i)
theorem num_nat (n : Nat) : num (n : Int) = ⟨(TL.numL n).toArray⟩ := TL.ext_tl (TL.tl_num n)
theorem tl_num (n : Nat) : TL.tl (num (n : Int)) = TL.numL n := TL.tl_num n
/-- the number of a word, if it is one -/
def numG (w : Str) : Option Int := if canon (TL.tl w) = true ∧ (TL.tl w).length ≤ 120 then some (NumText.digitsVal (TL.tl w) : Nat) else Option.none
theorem numG_eq {w : Str} {n : Int} (h : numG w = some n) : w = num n ∧ 0 ≤ n := by
  unfold numG at h
  split at h
  · rename_i c
    cases h
    exact ⟨TL.ext_tl (by rw [tl_num, canon_eq c.1]), Int.natCast_nonneg _⟩
  · cases h
theorem numG_num {n : Int} (h0 : 0 ≤ n) (h1 : n ≤ 1000000000000) : numG (num n) = some n := by
  obtain ⟨m, rfl⟩ := Int.eq_ofNat_of_zero_le h0
  have hm : m < 10 ^ 13 := by omega
  unfold numG
  rw [tl_num, if_pos ⟨numL_canon m, Nat.le_trans (TL.numL_len (by decide) hm) (by decide)⟩, TL.numL_val]
/-- .. within bounds -/
def tkV (lo : Int) (w : Str) : Option Int := match numG w with
  | some n => if lo ≤ n ∧ n ≤ 1000000000000 then some n else Option.none
  | Option.none => Option.none
theorem tkV_eq {lo n : Int} {w : Str} (h : tkV lo w = some n) : w = num n ∧ 0 ≤ n ∧ lo ≤ n ∧ n ≤ 1000000000000 ∧ numG w = some n := by
  unfold tkV at h
  cases e : numG w with
  | none => rw [e] at h; cases h
  | some m =>
    rw [e] at h
    simp only at h
    split at h
    · rename_i c
      cases h
      exact ⟨(numG_eq e).1, (numG_eq e).2, c.1, c.2, rfl⟩
    · cases h
theorem tkV_num {lo n : Int} (h0 : 0 ≤ n) (hl : lo ≤ n) (h1 : n ≤ 1000000000000) : tkV lo (num n) = some n := by
  unfold tkV
  rw [numG_num h0 h1]
  simp only
  rw [if_pos ⟨hl, h1⟩]
def tk (ws : List Str) (i : Nat) (lo : Int) : Option Int := ws[i]?.bind (tkV lo)
theorem tk_eq {ws : List Str} {i : Nat} {lo n : Int} (h : tk ws i lo = some n) : 0 ≤ n ∧ lo ≤ n ∧ n ≤ 1000000000000 := by
  unfold tk at h
  cases q : ws[i]? with
  | none => rw [q] at h; cases h
  | some v =>
    rw [q] at h
    have := tkV_eq (w := v) h
    exact ⟨this.2.1, this.2.2.1, this.2.2.2.1⟩
/-- what the words tell: trust, period, back, ahead; or the first word that cannot stand -/
def readW (ws : List Str) : Except Nat (Bool × Int × Int × Int) :=
  if ws[0]? = some ("grid" : Str) then match tk ws 1 2 with
    | Option.none => .error 1
    | some p => if 2 < ws.length then .error 2 else .ok (true, p, 0, 0)
  else if ws[0]? = some ("wheel" : Str) then match tk ws 1 2 with
    | Option.none => .error 1
    | some p => match tk ws 2 0 with
      | Option.none => .error 2
      | some b => match tk ws 3 0 with
        | Option.none => .error 3
        | some a => if 4 < ws.length then .error 4 else .ok (false, p, b, a)
  else .error 0
/-- the same ahead of the question whether a word is left: the number of words that are taken too -/
def headW (ws : List Str) : Except Nat (Bool × Int × Int × Int × Nat) :=
  if ws[0]? = some ("grid" : Str) then match tk ws 1 2 with
    | Option.none => .error 1
    | some p => .ok (true, p, 0, 0, 2)
  else if ws[0]? = some ("wheel" : Str) then match tk ws 1 2 with
    | Option.none => .error 1
    | some p => match tk ws 2 0 with
      | Option.none => .error 2
      | some b => match tk ws 3 0 with
        | Option.none => .error 3
        | some a => .ok (false, p, b, a, 4)
  else .error 0
theorem readW_head (ws : List Str) : readW ws = match headW ws with
  | .error i => .error i
  | .ok (tr, p, b, a, n) => if n < ws.length then .error n else .ok (tr, p, b, a) := by
  unfold readW headW
  split
  · cases tk ws 1 2 <;> rfl
  · split
    · cases tk ws 1 2 with
      | none => rfl
      | some p =>
        cases tk ws 2 0 with
        | none => rfl
        | some b => cases tk ws 3 0 <;> rfl
    · rfl
def wwords (tr : Bool) (p b a : Int) : List Str := if tr = true then ["grid", num p] else ["wheel", num p, num b, num a]
def wtext (tr : Bool) (p b a : Int) : Str := if tr = true then "grid " ++ num p else "wheel " ++ num p ++ " " ++ num b ++ " " ++ num a
theorem join_words (tr : Bool) (p b a : Int) : Txt.join " " (wwords tr p b a) = wtext tr p b a := by
  refine TL.ext_tl ?_
  rw [TL.join_eq, TL.tl_join]
  cases tr with
  | true =>
    show TL.joinL _ _ = TL.tl (("grid " : Str) ++ num p)
    rw [TL.tl_append]
    simp only [wwords, if_true, List.map_cons, List.map_nil, TL.joinL]
    rfl
  | false =>
    show TL.joinL _ _ = TL.tl (("wheel " : Str) ++ num p ++ " " ++ num b ++ " " ++ num a)
    simp only [wwords, Bool.false_eq_true, if_false, List.map_cons, List.map_nil, TL.joinL, TL.tl_append]
    have e : TL.tl ("wheel " : Str) = TL.tl ("wheel" : Str) ++ TL.tl (" " : Str) := by decide
    rw [e]
    simp only [List.append_assoc]
theorem read_ok {ws : List Str} {tr : Bool} {p b a : Int} (h : readW ws = .ok (tr, p, b, a)) : ws = wwords tr p b a ∧ (2 ≤ p ∧ p ≤ 1000000000000) ∧ (0 ≤ b ∧ b ≤ 1000000000000) ∧ (0 ≤ a ∧ a ≤ 1000000000000) ∧ (tr = true → b = 0 ∧ a = 0) := by
  unfold readW at h
  split at h
  · rename_i h0
    cases e1 : tk ws 1 2 with
    | none => rw [e1] at h; cases h
    | some q =>
      rw [e1] at h
      simp only at h
      split at h
      · cases h
      · rename_i hl
        cases h
        match ws, h0, e1, hl with
        | [w0, w1], h0, e1, _ =>
          cases h0
          obtain ⟨rfl, z0, z1, z2, _⟩ := tkV_eq (w := w1) e1
          exact ⟨rfl, ⟨z1, z2⟩, ⟨by decide, by decide⟩, ⟨by decide, by decide⟩, fun _ => ⟨rfl, rfl⟩⟩
        | [w0], _, e1, _ => cases e1
        | _ :: _ :: _ :: _, _, _, hl => simp at hl
  · split at h
    · rename_i h0
      cases e1 : tk ws 1 2 with
      | none => rw [e1] at h; cases h
      | some q =>
        rw [e1] at h
        simp only at h
        cases e2 : tk ws 2 0 with
        | none => rw [e2] at h; cases h
        | some q2 =>
          rw [e2] at h
          simp only at h
          cases e3 : tk ws 3 0 with
          | none => rw [e3] at h; cases h
          | some q3 =>
            rw [e3] at h
            simp only at h
            split at h
            · cases h
            · rename_i hl
              cases h
              match ws, h0, e1, e2, e3, hl with
              | [w0, w1, w2, w3], h0, e1, e2, e3, _ =>
                cases h0
                obtain ⟨rfl, z0, z1, z2, _⟩ := tkV_eq (w := w1) e1
                obtain ⟨rfl, y0, y1, y2, _⟩ := tkV_eq (w := w2) e2
                obtain ⟨rfl, x0, x1, x2, _⟩ := tkV_eq (w := w3) e3
                exact ⟨rfl, ⟨z1, z2⟩, ⟨y0, y2⟩, ⟨x0, x2⟩, fun z => by cases z⟩
              | [w0], _, e1, _, _, _ => cases e1
              | [w0, w1], _, _, e2, _, _ => cases e2
              | [w0, w1, w2], _, _, _, e3, _ => cases e3
              | _ :: _ :: _ :: _ :: _ :: _, _, _, _, _, hl => simp at hl
    · cases h
theorem read_own {tr : Bool} {p b a : Int} (hp : 2 ≤ p ∧ p ≤ 1000000000000) (hb : 0 ≤ b ∧ b ≤ 1000000000000) (ha : 0 ≤ a ∧ a ≤ 1000000000000) (ht : tr = true → b = 0 ∧ a = 0) : readW (wwords tr p b a) = .ok (tr, p, b, a) := by
  have t1 : tkV 2 (num p) = some p := tkV_num (by omega) hp.1 hp.2
  cases tr with
  | true =>
    obtain ⟨rfl, rfl⟩ := ht rfl
    show readW ["grid", num p] = _
    unfold readW
    rw [if_pos (show ((["grid", num p] : List Str)[0]? = some ("grid" : Str)) from rfl), show tk ["grid", num p] 1 2 = some p from t1]
    rfl
  | false =>
    show readW ["wheel", num p, num b, num a] = _
    unfold readW
    rw [if_neg (show ¬ ((["wheel", num p, num b, num a] : List Str)[0]? = some ("grid" : Str)) from show ¬ (some ("wheel" : Str) = some ("grid" : Str)) by decide), if_pos (show ((["wheel", num p, num b, num a] : List Str)[0]? = some ("wheel" : Str)) from rfl), show tk ["wheel", num p, num b, num a] 1 2 = some p from t1, show tk ["wheel", num p, num b, num a] 2 0 = some b from tkV_num hb.1 hb.1 hb.2, show tk ["wheel", num p, num b, num a] 3 0 = some a from tkV_num ha.1 ha.1 ha.2]
    rfl
theorem num_free {n : Int} (h : 0 ≤ n) : 32 ∉ TL.tl (num n) := by
  obtain ⟨m, rfl⟩ := Int.eq_ofNat_of_zero_le h
  rw [tl_num]
  exact TL.numL_free (.inl (by decide))
theorem wwords_free {tr : Bool} {p b a : Int} (hp : 0 ≤ p) (hb : 0 ≤ b) (ha : 0 ≤ a) : ∀ w ∈ wwords tr p b a, 32 ∉ TL.tl w := by
  cases tr with
  | true =>
    intro w hw
    simp only [wwords, if_true, List.mem_cons, List.not_mem_nil, or_false] at hw
    rcases hw with rfl | rfl
    · decide
    · exact num_free hp
  | false =>
    intro w hw
    simp only [wwords, Bool.false_eq_true, if_false, List.mem_cons, List.not_mem_nil, or_false] at hw
    rcases hw with rfl | rfl | rfl | rfl
    · decide
    · exact num_free hp
    · exact num_free hb
    · exact num_free ha
theorem split_words {ws : List Str} (h : ws ≠ []) (hf : ∀ w ∈ ws, 32 ∉ TL.tl w) : Txt.split (Txt.join " " ws) " " = ws := by
  exact TL.split_join (y := " ") (s := 32) (S := []) (by decide) (by decide +kernel) h hf
theorem len_num {n : Int} (h0 : 0 ≤ n) (h1 : n ≤ 1000000000000) : (num n).length ≤ 13 := by
  obtain ⟨m, rfl⟩ := Int.eq_ofNat_of_zero_le h0
  rw [TL.len_tl, tl_num]
  exact TL.numL_len (by decide) (by omega)
/-- a digit text within bounds, of at most 13 digits -/
def figs (w : Str) (lo : Int) : Bool := canon (TL.tl w) && decide ((TL.tl w).length ≤ 13) && decide (lo ≤ (NumText.digitsVal (TL.tl w) : Nat)) && decide (((NumText.digitsVal (TL.tl w) : Nat) : Int) ≤ 1000000000000)
theorem figs_tk (w : Str) (lo : Int) : figs w lo = (tkV lo w).isSome := by
  unfold figs tkV numG
  by_cases hc : canon (TL.tl w) = true
  · by_cases hl : (TL.tl w).length ≤ 120
    · rw [if_pos ⟨hc, hl⟩, hc]
      simp only [Bool.true_and]
      by_cases hb : lo ≤ ((NumText.digitsVal (TL.tl w) : Nat) : Int) ∧ ((NumText.digitsVal (TL.tl w) : Nat) : Int) ≤ 1000000000000
      · rw [if_pos hb, decide_eq_true hb.1, decide_eq_true hb.2]
        have : (TL.tl w).length ≤ 13 := by
          rcases Nat.lt_or_ge 13 (TL.tl w).length with z | z
          · have := canon_great hc z
            omega
          · exact z
        rw [decide_eq_true this]
        rfl
      · rw [if_neg hb]
        rw [Bool.and_assoc]
        have : (decide (lo ≤ ((NumText.digitsVal (TL.tl w) : Nat) : Int)) && decide (((NumText.digitsVal (TL.tl w) : Nat) : Int) ≤ 1000000000000)) = false := by
          rw [← Bool.decide_and, decide_eq_false hb]
        rw [this, Bool.and_false]
        rfl
    · rw [if_neg (fun z => hl z.2), decide_eq_false (show ¬ (TL.tl w).length ≤ 13 by omega), Bool.and_false, Bool.false_and, Bool.false_and]
      rfl
  · rw [if_neg (fun z => hc z.1), Bool.eq_false_iff.mpr hc, Bool.false_and, Bool.false_and, Bool.false_and]
    rfl
/-- signs of a digit text, as Python's own tests tell them -/
theorem dig_ascii : ∀ c : Nat, c < 128 → Unicode.isDigit c = (decide (48 ≤ c) && decide (c ≤ 57)) := by decide +kernel
theorem ascii_digits (w : Str) : (Txt.isascii w && Txt.isdigit w) = (!(TL.tl w).isEmpty && (TL.tl w).all (fun c => decide (48 ≤ c) && decide (c ≤ 57))) := by
  unfold Txt.isascii Txt.isdigit
  rw [Bool.eq_iff_iff]
  simp only [Bool.and_eq_true, Array.all_eq_true', decide_eq_true_eq, List.all_eq_true, Bool.not_eq_true']
  have hl : w.length > 0 ↔ (TL.tl w).isEmpty = false := by
    rw [TL.len_tl]
    cases TL.tl w <;> simp
  have hm : ∀ c, c ∈ w.cps ↔ c ∈ TL.tl w := fun c => by simp [TL.tl]
  constructor
  · rintro ⟨h1, h2, h3⟩
    refine ⟨hl.mp h2, fun c hc => ?_⟩
    have a := h1 c ((hm c).mpr hc)
    have b := h3 c ((hm c).mpr hc)
    rw [dig_ascii c a] at b
    simpa using b
  · rintro ⟨h1, h2⟩
    refine ⟨fun c hc => ?_, hl.mpr h1, fun c hc => ?_⟩
    · have := h2 c ((hm c).mp hc)
      omega
    · have b := h2 c ((hm c).mp hc)
      rw [dig_ascii c (by omega)]
      simpa using b
theorem int_text {w : Str} (h : canon (TL.tl w) = true) (hl : (TL.tl w).length ≤ 4300) : intText? w = some ((NumText.digitsVal (TL.tl w) : Nat) : Int) := by
  have e := SX.int_S (canon_dig h) (canon_ne h) hl
  rw [show SX.S (TL.tl w) = w from TL.mk_tl w] at e
  exact e
/-- the words behind the first one are asked one by one -/
theorem readW_ls {ws : List Str} {ls : List Int} (h : (ws[0]? = some ("grid" : Str) ∧ ls = [2]) ∨ (ws[0]? = some ("wheel" : Str) ∧ ls = [2, 0, 0])) :
    (∀ (j : Nat) (lo : Int), ls[j]? = some lo → (∀ (i : Nat) (lo' : Int), i < j → ls[i]? = some lo' → (tk ws (i + 1) lo').isSome = true) → tk ws (j + 1) lo = Option.none → readW ws = .error (j + 1)) ∧
    ((∀ (i : Nat) (lo : Int), ls[i]? = some lo → (tk ws (i + 1) lo).isSome = true) → (ls.length + 1 < ws.length → readW ws = .error (ls.length + 1)) ∧ (¬ ls.length + 1 < ws.length → ∃ r, readW ws = .ok r)) := by
  rcases h with ⟨h0, rfl⟩ | ⟨h0, rfl⟩
  · refine ⟨fun j lo hj hb hn => ?_, fun ha => ?_⟩
    · match j, hj with
      | 0, hj =>
        cases hj
        unfold readW
        rw [if_pos h0, hn]
    · obtain ⟨p, hp⟩ := Option.isSome_iff_exists.mp (ha 0 2 rfl)
      have hp : tk ws 1 2 = some p := hp
      refine ⟨fun hl => ?_, fun hl => ?_⟩
      · unfold readW
        rw [if_pos h0, hp]
        simp only
        exact if_pos hl
      · refine ⟨(true, p, 0, 0), ?_⟩
        unfold readW
        rw [if_pos h0, hp]
        simp only
        exact if_neg hl
  · have hg : ¬ (ws[0]? = some ("grid" : Str)) := by rw [h0]; decide
    refine ⟨fun j lo hj hb hn => ?_, fun ha => ?_⟩
    · match j, hj with
      | 0, hj =>
        cases hj
        unfold readW
        rw [if_neg hg, if_pos h0, hn]
      | 1, hj =>
        cases hj
        obtain ⟨p, hp⟩ := Option.isSome_iff_exists.mp (hb 0 2 (by decide) rfl)
        have hp : tk ws 1 2 = some p := hp
        unfold readW
        rw [if_neg hg, if_pos h0, hp]
        simp only
        rw [hn]
      | 2, hj =>
        cases hj
        obtain ⟨p, hp⟩ := Option.isSome_iff_exists.mp (hb 0 2 (by decide) rfl)
        have hp : tk ws 1 2 = some p := hp
        obtain ⟨b, hb'⟩ := Option.isSome_iff_exists.mp (hb 1 0 (by decide) rfl)
        have hb' : tk ws 2 0 = some b := hb'
        unfold readW
        rw [if_neg hg, if_pos h0, hp]
        simp only
        rw [hb']
        simp only
        rw [hn]
    · obtain ⟨p, hp⟩ := Option.isSome_iff_exists.mp (ha 0 2 rfl)
      have hp : tk ws 1 2 = some p := hp
      obtain ⟨b, hb⟩ := Option.isSome_iff_exists.mp (ha 1 0 rfl)
      have hb : tk ws 2 0 = some b := hb
      obtain ⟨a, hc⟩ := Option.isSome_iff_exists.mp (ha 2 0 rfl)
      have hc : tk ws 3 0 = some a := hc
      refine ⟨fun hl => ?_, fun hl => ⟨(false, p, b, a), ?_⟩⟩
      · unfold readW
        rw [if_neg hg, if_pos h0, hp]
        simp only
        rw [hb]
        simp only
        rw [hc]
        simp only
        exact if_pos hl
      · unfold readW
        rw [if_neg hg, if_pos h0, hp]
        simp only
        rw [hb]
        simp only
        rw [hc]
        simp only
        exact if_neg hl
theorem readW_no {ws : List Str} (h1 : ws[0]? ≠ some ("wheel" : Str)) (h2 : ws[0]? ≠ some ("grid" : Str)) : readW ws = .error 0 := by
  unfold readW
  rw [if_neg h2, if_neg h1]
end NX

namespace My
open PySem PySem.Spec PyProof.Rows L2 StX
def top (i : Nat) : Stmt := PySem.Challenge.pw_wheelreach_k80_rows_stocked.main.body.getD i (.Pass ⟨0, 0, 0, 0⟩)
abbrev s_is_whole : Stmt := top 13
abbrev s_is_between : Stmt := top 14
abbrev s_is_name : Stmt := top 20
abbrev s_need_part : Stmt := top 27
abbrev s_with_item : Stmt := top 34
abbrev s_with_row : Stmt := top 35
abbrev s_pen : Stmt := top 37
abbrev s_draw : Stmt := top 38
abbrev s_pick : Stmt := top 39
abbrev s_name : Stmt := top 40
abbrev s_state : Stmt := top 41
abbrev s_with : Stmt := top 42
abbrev s_stock : Stmt := top 43
abbrev s_row : Stmt := top 44
abbrev s_bad : Stmt := top 45
abbrev s_first_bad : Stmt := top 46
abbrev s_right : Stmt := top 47
abbrev s_law : Stmt := top 48
abbrev s_BadWheel_init : Stmt := inClass (top 4) 0
abbrev s_BadShelf_init : Stmt := inClass (top 6) 0
abbrev s_BadDeed_init : Stmt := inClass (top 7) 0
abbrev s_TooMany_init : Stmt := inClass (top 11) 0
abbrev s_Wheel_init : Stmt := inClass (top 24) 1
abbrev s_Wheel_str : Stmt := inClass (top 24) 9
abbrev s_Exact_init : Stmt := inClass (top 25) 0
abbrev s_Grid_init : Stmt := inClass (top 26) 1
abbrev s_Shelf_init : Stmt := inClass (top 33) 0
abbrev s_Shelf_can_undo : Stmt := inClass (top 33) 1
abbrev s_Shelf_can_redo : Stmt := inClass (top 33) 2
abbrev s_Shelf_len : Stmt := inClass (top 33) 3
abbrev s_Shelf_iter : Stmt := inClass (top 33) 4
abbrev s_Shelf_contains : Stmt := inClass (top 33) 5
abbrev s_Shelf_getitem : Stmt := inClass (top 33) 6
abbrev s_Shelf_stock : Stmt := inClass (top 33) 10
abbrev s_Shelf_done : Stmt := inClass (top 33) 11
abbrev s_Shelf_hold : Stmt := inClass (top 33) 12
abbrev s_Shelf_undo : Stmt := inClass (top 33) 13
abbrev lawFile : Str := PySem.Challenge.pw_wheelreach_k80_rows_stocked.main.file
theorem sc_is_whole : FnScope ["value"] ["value"] (defScope s_is_whole) := ⟨rfl, rfl, rfl, by decide +kernel, rfl, by decide +kernel, by decide +kernel⟩
theorem sc_is_between : FnScope ["value", "low", "high"] ["value", "low", "high"] (defScope s_is_between) := ⟨rfl, rfl, rfl, by decide +kernel, rfl, by decide +kernel, by decide +kernel⟩
theorem sc_is_name : FnScope ["value"] ["value"] (defScope s_is_name) := ⟨rfl, rfl, rfl, by decide +kernel, rfl, by decide +kernel, by decide +kernel⟩
theorem sc_need_part : FnScope ["value", "least", "part"] ["value", "least", "part"] (defScope s_need_part) := ⟨rfl, rfl, rfl, by decide +kernel, rfl, by decide +kernel, by decide +kernel⟩
theorem sc_with_item : FnScope ["items", "name", "item", "wheel", "price"] ["items", "name", "item"] (defScope s_with_item) := ⟨rfl, rfl, rfl, by decide +kernel, rfl, by decide +kernel, by decide +kernel⟩
theorem sc_with_row : FnScope ["items", "row", "name", "wheel", "price"] ["items", "row"] (defScope s_with_row) := ⟨rfl, rfl, rfl, by decide +kernel, rfl, by decide +kernel, by decide +kernel⟩
theorem sc_pen : FnScope ["_law_script"] ["_law_script"] (defScope s_pen) := ⟨rfl, rfl, rfl, by decide +kernel, rfl, by decide +kernel, by decide +kernel⟩
theorem sc_draw : FnScope ["_law_pen_here", "_law_many", "_law_digit", "_law_begun", "_law_lone", "_law_great", "_law_mixed"] ["_law_pen_here", "_law_many"] (defScope s_draw) := ⟨rfl, rfl, rfl, by decide +kernel, rfl, by decide +kernel, by decide +kernel⟩
theorem sc_pick : FnScope ["_law_pen_here", "_law_some"] ["_law_pen_here", "_law_some"] (defScope s_pick) := ⟨rfl, rfl, rfl, by decide +kernel, rfl, by decide +kernel, by decide +kernel⟩
theorem sc_name : FnScope ["_law_pen_here", "_law_word", "_law_lap"] ["_law_pen_here"] (defScope s_name) := ⟨rfl, rfl, rfl, by decide +kernel, rfl, by decide +kernel, by decide +kernel⟩
theorem sc_state : FnScope ["_law_shelf", "_law_name_here"] ["_law_shelf"] (defScope s_state) := ⟨rfl, rfl, rfl, by decide +kernel, rfl, by decide +kernel, by decide +kernel⟩
theorem sc_with : FnScope ["_law_state_here", "_law_row_here", "_law_old"] ["_law_state_here", "_law_row_here"] (defScope s_with) := ⟨rfl, rfl, rfl, by decide +kernel, rfl, by decide +kernel, by decide +kernel⟩
theorem sc_stock : FnScope ["_law_shelf", "_law_rows"] ["_law_shelf", "_law_rows"] (defScope s_stock) := ⟨rfl, rfl, rfl, by decide +kernel, rfl, by decide +kernel, by decide +kernel⟩
theorem sc_row : FnScope ["_law_pen_here", "_law_names", "_law_wheel"] ["_law_pen_here", "_law_names"] (defScope s_row) := ⟨rfl, rfl, rfl, by decide +kernel, rfl, by decide +kernel, by decide +kernel⟩
theorem sc_bad : FnScope ["_law_pen_here", "_law_row_here", "_law_name_here", "_law_wheel", "_law_price", "_law_some"] ["_law_pen_here", "_law_row_here"] (defScope s_bad) := ⟨rfl, rfl, rfl, by decide +kernel, rfl, by decide +kernel, by decide +kernel⟩
theorem sc_first_bad : FnScope ["_law_state_here", "_law_rows", "_law_bad_here", "_law_names", "_law_row_here", "_law_at"] ["_law_state_here", "_law_rows", "_law_bad_here"] (defScope s_first_bad) := ⟨rfl, rfl, rfl, by decide +kernel, rfl, by decide +kernel, by decide +kernel⟩
theorem sc_right : FnScope ["_law_pen_here", "_law_shelf", "_law_names", "_law_rows", "_law_bad_here", "_law_lap", "_law_at", "_law_row_here", "_law_state_here", "_law_many", "_law_again", "_law_due", "_law_told", "e", "_law_found"] ["_law_pen_here", "_law_shelf", "_law_names"] (defScope s_right) := ⟨rfl, rfl, rfl, by decide +kernel, rfl, by decide +kernel, by decide +kernel⟩
theorem sc_law : FnScope ["_law_script", "_law_pen_here", "_law_lap", "_law_shelf", "_law_names", "_law_turn", "_law_full", "e"] ["_law_script"] (defScope s_law) := ⟨rfl, rfl, rfl, by decide +kernel, rfl, by decide +kernel, by decide +kernel⟩
theorem sc_BadWheel_init : FnScope ["self", "part"] ["self", "part"] (defScope s_BadWheel_init) := ⟨rfl, rfl, rfl, by decide +kernel, rfl, by decide +kernel, by decide +kernel⟩
theorem sc_BadShelf_init : FnScope ["self", "part"] ["self", "part"] (defScope s_BadShelf_init) := ⟨rfl, rfl, rfl, by decide +kernel, rfl, by decide +kernel, by decide +kernel⟩
theorem sc_BadDeed_init : FnScope ["self", "at"] ["self", "at"] (defScope s_BadDeed_init) := ⟨rfl, rfl, rfl, by decide +kernel, rfl, by decide +kernel, by decide +kernel⟩
theorem sc_TooMany_init : FnScope ["self", "what", "most"] ["self", "what", "most"] (defScope s_TooMany_init) := ⟨rfl, rfl, rfl, by decide +kernel, rfl, by decide +kernel, by decide +kernel⟩
theorem sc_Wheel_init : FnScope ["self", "period", "back", "ahead"] ["self", "period", "back", "ahead"] (defScope s_Wheel_init) := ⟨rfl, rfl, rfl, by decide +kernel, rfl, by decide +kernel, by decide +kernel⟩
theorem sc_Wheel_str : FnScope ["self"] ["self"] (defScope s_Wheel_str) := ⟨rfl, rfl, rfl, by decide +kernel, rfl, by decide +kernel, by decide +kernel⟩
theorem sc_Exact_init : SupScope ["self", "period"] ["self", "period"] (defScope s_Exact_init) := ⟨rfl, rfl, rfl, by decide +kernel, rfl, by decide +kernel, by decide +kernel, by decide +kernel⟩
theorem sc_Grid_init : SupScope ["self", "period"] ["self", "period"] (defScope s_Grid_init) := ⟨rfl, rfl, rfl, by decide +kernel, rfl, by decide +kernel, by decide +kernel, by decide +kernel⟩
theorem sc_Shelf_init : FnScope ["self"] ["self"] (defScope s_Shelf_init) := ⟨rfl, rfl, rfl, by decide +kernel, rfl, by decide +kernel, by decide +kernel⟩
theorem sc_Shelf_can_undo : FnScope ["self"] ["self"] (defScope s_Shelf_can_undo) := ⟨rfl, rfl, rfl, by decide +kernel, rfl, by decide +kernel, by decide +kernel⟩
theorem sc_Shelf_can_redo : FnScope ["self"] ["self"] (defScope s_Shelf_can_redo) := ⟨rfl, rfl, rfl, by decide +kernel, rfl, by decide +kernel, by decide +kernel⟩
theorem sc_Shelf_len : FnScope ["self"] ["self"] (defScope s_Shelf_len) := ⟨rfl, rfl, rfl, by decide +kernel, rfl, by decide +kernel, by decide +kernel⟩
theorem sc_Shelf_iter : FnScope ["self"] ["self"] (defScope s_Shelf_iter) := ⟨rfl, rfl, rfl, by decide +kernel, rfl, by decide +kernel, by decide +kernel⟩
theorem sc_Shelf_contains : FnScope ["self", "value"] ["self", "value"] (defScope s_Shelf_contains) := ⟨rfl, rfl, rfl, by decide +kernel, rfl, by decide +kernel, by decide +kernel⟩
theorem sc_Shelf_getitem : FnScope ["self", "at"] ["self", "at"] (defScope s_Shelf_getitem) := ⟨rfl, rfl, rfl, by decide +kernel, rfl, by decide +kernel, by decide +kernel⟩
theorem sc_Shelf_stock : FnScope ["self", "rows", "items", "at", "row", "why"] ["self", "rows"] (defScope s_Shelf_stock) := ⟨rfl, rfl, rfl, by decide +kernel, rfl, by decide +kernel, by decide +kernel⟩
theorem sc_Shelf_done : FnScope ["self", "items"] ["self", "items"] (defScope s_Shelf_done) := ⟨rfl, rfl, rfl, by decide +kernel, rfl, by decide +kernel, by decide +kernel⟩
theorem sc_Shelf_hold : FnScope ["self", "items"] ["self", "items"] (defScope s_Shelf_hold) := ⟨rfl, rfl, rfl, by decide +kernel, rfl, by decide +kernel, by decide +kernel⟩
theorem sc_Shelf_undo : FnScope ["self"] ["self"] (defScope s_Shelf_undo) := ⟨rfl, rfl, rfl, by decide +kernel, rfl, by decide +kernel, by decide +kernel⟩
section
variable {P : Program} {w : World} {K : PySem.W.Frag} {mg : Str → Option Value} {base : Heap}
/-! ### rules and words of our own -/
/-- x(e, ..), x a def whose promise is told of the arguments as they are passed -/
theorem pe_callR {X : Cx} {CX : CXT} {k : Nat} {f : Addr} {sp : Sp} {E : XK} {x : Str} {e : Expr} {es : List Expr} {t : TA} {p pos : Pos} (F : FnR X.prog X.w X.K X.mg X.base CX k f sp) (hr : Room k X.A) (hk : PySem.W.keepIn X.K (.ref f) = true) (hg : Gl X x) (hm : X.mg x = some (.ref f)) (hx : Passes CX X E)
    (ha : PA X (e :: es) t) (hd : (x == ("__debug__" : Str)) = false := by decide) (he : starEach (e :: es) X.env = (false, eval e X.env) :: starEach es X.env := by rfl) (hpl : (backTo pos (starEach es X.env)).any (·.1) = false := by rfl) :
    PE X (.Call (.Name x p) (e :: es) [] pos) (fun σ H Q => t σ H fun vs H1 => sp vs H1 Q E) := by
  refine ⟨fun pins s σ H Q I h => ?_⟩
  refine wpAny_Call_Name_kw (ld_glob I hg hm ?_ hd)
  refine PySem.W.callWith_K (h₀ := X.base) I.ok.mod.kin hk (thn (ha.run pos pins s σ H _ I h) fun us s1 ⟨vs, H1, I1, r, q⟩ => ⟨I1.kIn, ?_⟩) he hpl
  exact wpAny_call (run_fnR F hr hx I1 r q)
theorem pe_callR0 {X : Cx} {CX : CXT} {k : Nat} {f : Addr} {sp : Sp} {E : XK} {x : Str} {p pos : Pos} (F : FnR X.prog X.w X.K X.mg X.base CX k f sp) (hr : Room k X.A) (hk : PySem.W.keepIn X.K (.ref f) = true) (hg : Gl X x) (hm : X.mg x = some (.ref f)) (hx : Passes CX X E)
    (hd : (x == ("__debug__" : Str)) = false := by decide) : PE X (.Call (.Name x p) [] [] pos) (fun σ H Q => sp [] H Q E) := by
  refine ⟨fun pins s σ H Q I h => ?_⟩
  refine wpAny_Call_Name_kw (ld_glob I hg hm ?_ hd)
  exact PySem.W.callWith_K0 I.kIn hk (wpAny_call (run_fnR (us := []) F hr hx I .nil h))
/-- def f(*v) of the text -/
theorem star_ok {P : Program} {w : World} {K : PySem.W.Frag} {mg : Str → Option Value} {base : Heap} {k : Nat} {x qual pv : Str} {st : Stmt} {f : Addr} {fd : FuncData} {N : List Str} {sp : List V → Hp → VK → XK → Prop}
    (F : Fun K x qual st f fd) (S : FnScope N [pv] (defScope st))
    (hb : ∀ (kV doc pm : Value) (an : Option Addr) (cdv ct : Value) (rest : List Value), bindArgs (PySem.W.fnOf x qual (defArgs st) (defBody st) (defScope st) .none kV doc pm an cdv ct) ⟨rest, []⟩ = (newTuple rest >>= fun t => pure [(pv, t)]))
    (hbody : ∀ (cdv : Value) (A : Around) (outer : List Env) (s : Shared) (H : Hp) (vs : List V) (p : Addr) (H0 : Hp) (Q : VK) (E : XK), Room k (A.deeper (envOfC qual (defScope st) s.heap.objs.size f cdv)) → sp vs H0 Q E → vs.length ≤ sizeLine → H0 p = Option.none → H = upd H0 p (.tup vs) →
      ∃ t, PSs (cxOf CX0 P w K mg base N qual (defScope st) f cdv A outer s H E).nox (defBody st) t ∧ t { nx := fun _ H' => Q .non H', rt := Q } (start N [V.ref p]) H) :
    FnR P w K mg base CX0 (k + 1) f (fun vs H Q E => vs.length ≤ sizeLine ∧ sp vs H Q E) := by
  obtain ⟨oc, od, kV, doc, pm, an, cdv, ct, osl, rfl, lk, hcd⟩ := F.ex
  refine FnR.imp (fn_star (ps := []) (pv := pv) (CX := CX0) (sp := fun ws H Q E => ∃ (vs : List V) (p : Addr) (H0 : Hp), ws = [V.ref p] ∧ sp vs H0 Q E ∧ vs.length ≤ sizeLine ∧ H0 p = Option.none ∧ H = upd H0 p (.tup vs)) lk hcd S cxUp_none (fun us rest hl => ?_) fun A outer s H vs Q E hr h => ?_) fun vs H Q E h => ?_
  · have e : us = [] := List.length_eq_zero_iff.mp hl
    subst e
    show bindArgs _ ⟨rest, []⟩ = _
    rw [hb]
    rfl
  · obtain ⟨ws, p, H0, rfl, hs, hl, hp, rfl⟩ := h
    obtain ⟨t, ht, hq⟩ := hbody cdv A outer s _ ws p H0 Q E hr hs hl hp rfl
    exact ⟨t, ht.nox, hq⟩
  · exact ⟨[], vs, rfl, rfl, h.1, fun p hp => ⟨vs, p, H, rfl, h.2, h.1, hp, rfl⟩⟩
/-- all but p is as it was -/
structure Fr (p : Addr) (H H' : Hp) : Prop where
  keep : ∀ b o, b ≠ p → H b = some o → H' b = some o
  head : ∀ v xs, H p = some (.lst (v :: xs)) → ∃ ys, H' p = some (.lst (v :: ys))
instance {p : Addr} {H H' : Hp} : CoeFun (Fr p H H') fun _ => ∀ b o, b ≠ p → H b = some o → H' b = some o := ⟨Fr.keep⟩
theorem Fr.refl (p : Addr) (H : Hp) : Fr p H H := ⟨fun _ _ _ h => h, fun _ xs h => ⟨xs, h⟩⟩
theorem Fr.trans {p : Addr} {H H1 H2 : Hp} (a : Fr p H H1) (b : Fr p H1 H2) : Fr p H H2 := ⟨fun c o n h => b.keep c o n (a.keep c o n h), fun v xs h => by
  obtain ⟨ys, h1⟩ := a.head v xs h
  exact b.head v ys h1⟩
theorem same_fr {p : Addr} {H H' : Hp} (s : Same H H') : Fr p H H' := ⟨fun b o _ h => s b o h, fun _ xs h => ⟨xs, s _ _ h⟩⟩
theorem same_new {H : Hp} {p : Addr} {o : HO} (h : H p = Option.none) : Same H (upd H p o) := fun b u e => by
  rw [upd_ne (ne_of_none e h)]; exact e
theorem fr_upd {H : Hp} {p : Addr} {v : V} {xs ys : List V} (hp : H p = some (.lst (v :: xs))) : Fr p H (upd H p (.lst (v :: ys))) := ⟨fun b u n e => by rw [upd_ne n]; exact e, fun v' xs' e => by
  rw [hp] at e
  cases e
  exact ⟨ys, upd_same⟩⟩
theorem Fr.seq {K : PySem.W.Frag} {p a : Addr} {H H' : Hp} {xs : List V} (e : Fr p H H') (n : a ≠ p) (h : SqL K H a xs) : SqL K H' a xs := by
  rcases h with (h | ⟨o, h⟩) | h
  · exact .inl (.inl (e _ _ n h))
  · exact .inl (.inr ⟨o, e _ _ n h⟩)
  · exact .inr h
/-- the state of the draws: the cells, the index, what is left of a great one -/
def Pen (H : Hp) (p : Addr) (n : Nat) : Prop := ∃ (c : Addr) (ns : List Int) (i g : Int), H p = some (.lst [.ref c, .int i, .int g]) ∧ H c = some (.lst (ns.map V.int)) ∧ 0 ≤ i ∧ i ≤ (n : Int) ∧ 0 ≤ g ∧ ns.length ≤ 63
theorem Pen.same {H H' : Hp} {p : Addr} {n : Nat} (h : Pen H p n) (s : Same H H') : Pen H' p n := by
  obtain ⟨c, ns, i, g, h1, h2, h3⟩ := h
  exact ⟨c, ns, i, g, s _ _ h1, s _ _ h2, h3⟩
theorem Pen.mono {H : Hp} {p : Addr} {n m : Nat} (h : Pen H p n) (l : n ≤ m) : Pen H p m := by
  obtain ⟨c, ns, i, g, h1, h2, h3, h4, h5⟩ := h
  exact ⟨c, ns, i, g, h1, h2, h3, by omega, h5⟩
theorem pen_ne {H : Hp} {p c : Addr} {x y : V} {a : Addr} {ns : List Int} (h1 : H p = some (.lst [.ref a, x, y])) (h2 : H c = some (.lst (ns.map V.int))) : c ≠ p := fun e => by
  rw [e, h1] at h2
  cases ns with
  | nil => cases h2
  | cons z r => injection h2 with h2; injection h2 with h2; injection h2 with h2; cases h2
theorem Pen.at {H : Hp} {p : Addr} {n : Nat} (h : Pen H p n) : ∃ xs, H p = some (.lst xs) := by
  obtain ⟨c, ns, i, g, h1, _⟩ := h
  exact ⟨_, h1⟩
theorem Pen.neq {H : Hp} {p a : Addr} {n : Nat} (h : Pen H p n) (e : H a = Option.none) : a ≠ p := fun z => by
  obtain ⟨xs, h⟩ := h.at
  rw [z, h] at e; cases e
theorem if_true_of {c : Bool} {A B : Prop} (hc : c = true) (h : A) : if c = true then A else B := by
  rw [if_pos hc]; exact h
theorem if_false_of {c : Bool} {A B : Prop} (hc : c = false) (h : B) : if c = true then A else B := by
  rw [hc, if_neg Bool.false_ne_true]; exact h
theorem atI_in {ns : List Int} {j : Int} (h0 : 0 ≤ j) (h1 : j < (ns.length : Int)) : ∃ z, atI (ns.map V.int) j = some (V.int z) := by
  have h : j.toNat < ns.length := by omega
  exact ⟨ns[j.toNat], at_of (j := j.toNat) (by omega) (by rw [List.getElem?_map]; simp [h])⟩
theorem atI_any {xs : List V} {j : Int} (h0 : 0 ≤ j) (h1 : j < (xs.length : Int)) : ∃ z, z ∈ xs ∧ atI xs j = some z := by
  have h : j.toNat < xs.length := by omega
  exact ⟨xs[j.toNat], List.getElem_mem h, at_of (j := j.toNat) (by omega) (by simp [h])⟩
theorem cut_ints (ns : List Int) (lo hi : Option Int) : ∃ ms : List Int, cutV (ns.map V.int) lo hi = ms.map V.int ∧ ms.length ≤ ns.length := by
  refine ⟨(ns.drop (HT.sIx (ns.map V.int).length 0 lo)).take (HT.sIx (ns.map V.int).length (ns.map V.int).length hi - HT.sIx (ns.map V.int).length 0 lo), ?_, ?_⟩
  · unfold cutV
    rw [List.map_take, List.map_drop]
  · rw [List.length_take, List.length_drop]
    omega
theorem stir1 {r b d e : Int} (h0 : 0 ≤ r) (h1 : r < 2147483648) (b0 : 0 ≤ b) (b1 : b ≤ 100000) (d0 : 0 ≤ d) (d1 : d ≤ 100000) (e0 : 0 ≤ e) (e1 : e ≤ 100000) : (r + d * b + e).natAbs < 2 ^ 64 := by
  have h2 := Int.mul_nonneg d0 b0
  have h3 : d * b ≤ d * 100000 := Int.mul_le_mul_of_nonneg_left b1 d0
  omega
theorem stir2 {s b c d e : Int} (h0 : 0 ≤ s) (h1 : s < 2147483648) (b0 : 0 ≤ b) (b1 : b ≤ 100000) (c0 : 0 ≤ c) (c1 : c ≤ 100000) (d0 : 0 ≤ d) (d1 : d ≤ 100000) (e0 : 0 ≤ e) (e1 : e ≤ 100000) : (s * (2 * b + c) + d * b * b + e).natAbs < 2 ^ 64 := by
  have h2 := Int.mul_nonneg h0 (show 0 ≤ 2 * b + c by omega)
  have h3 : s * (2 * b + c) ≤ 2147483648 * (2 * b + c) := Int.mul_le_mul_of_nonneg_right (by omega) (by omega)
  have h4 := Int.mul_nonneg d0 b0
  have h5 := Int.mul_nonneg h4 b0
  have h6 : d * b ≤ d * 100000 := Int.mul_le_mul_of_nonneg_left b1 d0
  have h7 : d * b * b ≤ d * b * 100000 := Int.mul_le_mul_of_nonneg_left b1 h4
  omega
theorem small64 {i : Int} (h0 : 0 ≤ i) (h1 : i < 2147483648) : -(2 ^ 64) < i ∧ i < 2 ^ 64 := by omega
theorem fmod_pos {x m : Int} (hm : 0 < m) : 0 ≤ x.fmod m ∧ x.fmod m < m := by
  rw [Int.fmod_eq_emod_of_nonneg x (by omega)]
  exact ⟨Int.emod_nonneg _ (by omega), Int.emod_lt_of_pos _ hm⟩
theorem dp_ints {K : PySem.W.Frag} {H : Hp} : ∀ ns : List Int, DpAll K H (ns.map V.int) (ns.map PyData.int)
  | [] => .nil
  | z :: r => .cons (.int z) (dp_ints r)
theorem eqvAll_ints : ∀ ns : List Int, PyData.eqvAll (ns.map PyData.int) (ns.map PyData.int) = true
  | [] => by simp [PyData.eqvAll]
  | z :: r => by simp [PyData.eqvAll, PyData.eqv, eqvAll_ints r]
theorem eqv_ints (ns : List Int) : PyData.eqv (.list (ns.map PyData.int)) (.list (ns.map PyData.int)) = true := by
  rw [PyData.eqv]; exact eqvAll_ints ns

/-! ### defs told for callers around whom nothing is being shown by repr -/
def FnG (P : Program) (w : World) (K : PySem.W.Frag) (mg : Str → Option Value) (base : Heap) (CX : CXT) (k : Nat) (f : Addr) (sp : Sp) : Prop :=
  ∀ (A : Around) (outer : List Env) (s : Shared) (H : Hp) (us : List Value) (vs : List V) (Q : VK) (E : XK), A.guards = some [] → Room k A → Env0 P w K mg base A outer s H → Vals vs us → sp vs H Q E →
    codeAny (model P w) A (.call (.ref f) { pos := us, kw := [] }) (CR CX outer P w H s Q E) s
theorem FnG.of {P : Program} {w : World} {K : PySem.W.Frag} {mg : Str → Option Value} {base : Heap} {CX : CXT} {k : Nat} {f : Addr} {sp : Sp} (F : FnR P w K mg base CX k f sp) : FnG P w K mg base CX k f sp :=
  fun A o s H us vs Q E _ hr => F A o s H us vs Q E hr
theorem FnG.mk {P : Program} {w : World} {K : PySem.W.Frag} {mg : Str → Option Value} {base : Heap} {CX : CXT} {k : Nat} {x qual : Str} {st : Stmt} {f : Addr} {fd : FuncData} {N ps : List Str} {sp : Sp}
    (F : Fun K x qual st f fd) (S : FnScope N ps (defScope st)) (B : Binds K fd ps []) (len : ∀ vs H Q E, sp vs H Q E → vs.length = ps.length)
    (go : ∀ (cdv : Value) (A : Around) (outer : List Env) (s : Shared) (H : Hp) (vs : List V) (Q : VK) (E : XK), (A.deeper (envOfC qual (defScope st) s.heap.objs.size f cdv)).guards = some [] → Room k (A.deeper (envOfC qual (defScope st) s.heap.objs.size f cdv)) → sp vs H Q E →
      ∃ t, PSs (cxOf CX P w K mg base N qual (defScope st) f cdv A outer s H E) (defBody st) t ∧ t { nx := fun _ H1 => Q .non H1, rt := Q } (start N vs) H) : FnG P w K mg base CX (k + 1) f sp := by
  obtain ⟨oc, od, kV, doc, pm, an, cdv, ct, osl, e, lk, hcd⟩ := F.ex
  subst e
  intro A outer s H us vs Q E hg hr e0 rv hs
  have hl := len _ _ _ _ hs
  have hu : (us ++ []).length = ps.length := by rw [List.append_nil, ← hl]; exact rv.length.symm
  have b := B s us (e0.mod.kin.keeps fun b o z => (e0.bs b o z).1) hu
  rw [List.append_nil] at b
  exact LamX.run_ofS lk hcd S hr e0 b rv hl fun hr1 => go cdv A outer s H vs Q E hg hr1 hs
theorem FnG.mk0 {P : Program} {w : World} {K : PySem.W.Frag} {mg : Str → Option Value} {base : Heap} {k : Nat} {x qual : Str} {st : Stmt} {f : Addr} {fd : FuncData} {N ps : List Str} {sp : Sp}
    (F : Fun K x qual st f fd) (S : FnScope N ps (defScope st)) (B : Binds K fd ps []) (len : ∀ vs H Q E, sp vs H Q E → vs.length = ps.length)
    (go : ∀ (cdv : Value) (A : Around) (outer : List Env) (s : Shared) (H : Hp) (vs : List V) (Q : VK) (E : XK), (A.deeper (envOfC qual (defScope st) s.heap.objs.size f cdv)).guards = some [] → Room k (A.deeper (envOfC qual (defScope st) s.heap.objs.size f cdv)) → sp vs H Q E →
      ∃ t, PSs (cxOf CX0 P w K mg base N qual (defScope st) f cdv A outer s H E).nox (defBody st) t ∧ t { nx := fun _ H1 => Q .non H1, rt := Q } (start N vs) H) : FnG P w K mg base CX0 (k + 1) f sp :=
  FnG.mk F S B len fun cdv A outer s H vs Q E hg hr hs => by
    obtain ⟨t, ht, q⟩ := go cdv A outer s H vs Q E hg hr hs
    exact ⟨t, ht.nox, q⟩
/-- .. of a def whose code object is known -/
theorem FnG.mkL {P : Program} {w : World} {K : PySem.W.Frag} {mg : Str → Option Value} {base : Heap} {k : Nat} {x qual : Str} {st : Stmt} {f c : Addr} {N ps : List Str} {sp : Sp} {oc : Value} {od an : Option Addr} {osl : Array (Option Value)} {kV doc pm ct : Value}
    (lk : K.lookup f = some ⟨oc, od, .func (PySem.W.fnOf x qual (defArgs st) (defBody st) (defScope st) .none kV doc pm an (.ref c) ct), osl⟩) (hcd : PySem.W.codeIn K (.ref c) qual = true) (S : FnScope N ps (defScope st))
    (B : Binds K (PySem.W.fnOf x qual (defArgs st) (defBody st) (defScope st) .none kV doc pm an (.ref c) ct) ps []) (len : ∀ vs H Q E, sp vs H Q E → vs.length = ps.length)
    (go : ∀ (A : Around) (outer : List Env) (s : Shared) (H : Hp) (vs : List V) (Q : VK) (E : XK), (A.deeper (envOfC qual (defScope st) s.heap.objs.size f (.ref c))).guards = some [] → Room k (A.deeper (envOfC qual (defScope st) s.heap.objs.size f (.ref c))) → sp vs H Q E →
      ∃ t, PSs (cxOf CX0 P w K mg base N qual (defScope st) f (.ref c) A outer s H E).nox (defBody st) t ∧ t { nx := fun _ H1 => Q .non H1, rt := Q } (start N vs) H) : FnG P w K mg base CX0 (k + 1) f sp := by
  intro A outer s H us vs Q E hg hr e0 rv hs
  have hl := len _ _ _ _ hs
  have hu : (us ++ []).length = ps.length := by rw [List.append_nil, ← hl]; exact rv.length.symm
  have b := B s us (e0.mod.kin.keeps fun b o z => (e0.bs b o z).1) hu
  rw [List.append_nil] at b
  exact LamX.run_ofS lk hcd S hr e0 b rv hl fun hr1 => by
    obtain ⟨t, ht, q⟩ := go A outer s H vs Q E hg hr1 hs
    exact ⟨t, ht.nox, q⟩
/-- x(e, ..), x such a def -/
theorem pe_callG {X : Cx} {CX : CXT} {k : Nat} {f : Addr} {sp : Sp} {E : XK} {x : Str} {e : Expr} {es : List Expr} {t : TA} {p pos : Pos} (gu : X.A.guards = some []) (F : FnG X.prog X.w X.K X.mg X.base CX k f sp) (hr : Room k X.A) (hk : PySem.W.keepIn X.K (.ref f) = true) (hg : Gl X x) (hm : X.mg x = some (.ref f)) (hx : Passes CX X E)
    (ha : PA X (e :: es) t) (hd : (x == ("__debug__" : Str)) = false := by decide) (he : starEach (e :: es) X.env = (false, eval e X.env) :: starEach es X.env := by rfl) (hpl : (backTo pos (starEach es X.env)).any (·.1) = false := by rfl) :
    PE X (.Call (.Name x p) (e :: es) [] pos) (fun σ H Q => t σ H fun vs H1 => sp vs H1 Q E) := by
  refine ⟨fun pins s σ H Q I h => wpAny_Call_Name_kw (ld_glob I hg hm ?_ hd)⟩
  refine PySem.W.callWith_K (h₀ := X.base) I.ok.mod.kin hk (thn (ha.run pos pins s σ H _ I h) fun us s1 ⟨vs, H1, I1, r, q⟩ => ⟨I1.kIn, wpAny_call ?_⟩) he hpl
  refine codeAny_mono (F X.A X.stack s1 H1 us vs Q E gu hr I1.env0 r q) fun z s2 hz => ?_
  match z, hz with
  | .error er, hz => exact hx pins σ H1 s1 er s2 I1 hz
  | .ok (.ret u), hz => exact I1.after hz
/-! ### the law's entry, with tables of code objects and nothing being shown -/
section
variable {P : Program} {w : World} {K : PySem.W.Frag} {mg mb : Str → Option Value} {a : Addr} {cs : List (Addr × Addr)} {s : Shared} {vs : List Value} {ns : List Int}
open Classical in
/-- what is tracked at the entry: the script, if it is none of the written things, and the tables -/
noncomputable def H1st (K : PySem.W.Frag) (a : Addr) (cs : List (Addr × Addr)) (vs : List Value) (ns : List Int) : Hp := fun b =>
  if b = a ∧ K.lookup a = Option.none then some (.frz ({ cls := .type "list", data := .seq vs.toArray } : Obj) (.lst (ns.map V.int))) else if ∃ p ∈ cs, p.2 = b then some (.tbl #[]) else Option.none
theorem entry (KX : K.In s.heap) (G : s.heap.Ns mainGlobals mg) (Gb : s.heap.Ns builtinsNs mb) (bb : ∀ x : Str, x ≠ "__name__" → mb x = bootBuiltins x) (nl : s.heap.NoLimit) (ng : s.gens = #[])
    (tb : ∀ p ∈ cs, s.heap.get? p.2 = some ({ cls := .none, data := .fields #[] } : Obj)) (tk : ∀ p ∈ cs, K.lookup p.2 = Option.none) (ch : ∀ p ∈ cs, PySem.W.CodeHd s.heap p.1 p.2)
    (bm : ∃ (m : Addr) (o : Obj), mg "__builtins__" = some (.ref m) ∧ m ≠ builtinsNs ∧ s.heap.get? m = some o ∧ o.cls = .type "module" ∧ o.dict = some builtinsNs ∧ o.data = .plain)
    (sc : s.heap.get? a = some ({ cls := .type "list", data := .seq vs.toArray } : Obj)) (iv : IntsAre vs ns) (len : ns.length ≤ sizeLine) :
    ∃ (H : Hp) (base : Heap), K.In base ∧ base.Ns mainGlobals mg ∧ (∀ p ∈ cs, LamX.TabB base mg p.1 p.2) ∧ Env0 P w K mg base callerA [] s H ∧ (∀ p ∈ cs, H p.2 = some (.tbl #[])) ∧ SqL K H a (ns.map V.int) ∧
      ∀ b, H b = Option.none ∨ (∃ p ∈ cs, p.2 = b) ∨ ∃ o xs, H b = some (.frz o (.lst xs)) := by
  have rv := vals_ints iv
  have nt : ¬ ∃ p ∈ cs, p.2 = a := fun ⟨p, hp, e⟩ => by
    have z := tb p hp
    rw [e, sc] at z
    exact nomatch congrArg Obj.data (Option.some.inj z)
  -- what is tracked
  have tr : ∀ b u, H1st K a cs vs ns b = some u → (b = a ∧ K.lookup a = Option.none ∧ u = .frz ({ cls := .type "list", data := .seq vs.toArray } : Obj) (.lst (ns.map V.int))) ∨ ((∃ p ∈ cs, p.2 = b) ∧ u = .tbl #[]) := fun b u h => by
    unfold H1st at h
    split at h
    · rename_i c; exact .inl ⟨c.1, c.2, (Option.some.inj h).symm⟩
    · split at h
      · rename_i c; exact .inr ⟨c, (Option.some.inj h).symm⟩
      · cases h
  have tt : ∀ p ∈ cs, H1st K a cs vs ns p.2 = some (.tbl #[]) := fun p hp => by
    unfold H1st
    rw [if_neg (fun z : p.2 = a ∧ _ => nt ⟨p, hp, z.1⟩), if_pos ⟨p, hp, rfl⟩]
  have un : ∀ b o, s.heap.get? b = some o → (∀ v n, o.data ≠ .seq v n) → o.data ≠ .fields #[] → H1st K a cs vs ns b = Option.none := fun b o e n1 n2 => by
    match q : H1st K a cs vs ns b with
    | Option.none => rfl
    | some u =>
      exfalso
      rcases tr b u q with ⟨z, _, _⟩ | ⟨⟨p, hp, z⟩, _⟩
      · rw [z, sc] at e; cases e; exact n1 _ _ rfl
      · rw [← z, tb p hp] at e; cases e; exact n2 rfl
  have keep : ∀ {b : Addr} {o : Obj}, s.heap.get? b = some o → (∀ v n, o.data ≠ .seq v n) → o.data ≠ .fields #[] → (hidT s.heap (H1st K a cs vs ns)).get? b = some o := fun e n1 n2 => hidT_get e (un _ _ e n1 n2)
  have nsOf : ∀ {b : Addr} {m : Str → Option Value}, s.heap.Ns b m → (hidT s.heap (H1st K a cs vs ns)).Ns b m := fun {b m} ⟨o, es, ep, e, d, r⟩ => ⟨o, es, ep, keep e (fun v n z => by rw [d] at z; cases z) (fun z => by rw [d] at z; cases z), d, r⟩
  have kin : K.In (hidT s.heap (H1st K a cs vs ns)) := fun b o e => hidT_get (KX b o e) (by
    match q : H1st K a cs vs ns b with
    | Option.none => rfl
    | some u =>
      exfalso
      rcases tr b u q with ⟨z, z2, _⟩ | ⟨⟨p, hp, z⟩, _⟩
      · rw [z, z2] at e; cases e
      · rw [← z, tk p hp] at e; cases e)
  have md : L2.Mod K mg (hidT s.heap (H1st K a cs vs ns)) := { kin := kin, glob := nsOf G, blt := ⟨mb, nsOf Gb, bb⟩, nolimit := by obtain ⟨mc, q1, q2⟩ := nl; exact ⟨mc, nsOf q1, q2⟩ }
  have gl : ∀ p ∈ cs, mainGlobals ≠ p.2 := fun p hp z => by
    obtain ⟨o, es, ep, e, d, _⟩ := G
    rw [z, tb p hp] at e
    cases e
    cases d
  refine ⟨H1st K a cs vs ns, hidT s.heap (H1st K a cs vs ns), kin, nsOf G, fun p hp => ⟨?_, ?_, gl p hp⟩, ⟨rfl, md, fun b o e => of_hidT e, Nat.le_of_eq (hidT_size _ _), trivial, fun b hb => (List.not_mem_nil hb).elim, fun b u q => ?_, .of_eq ng⟩, tt, ?_, fun b => ?_⟩
  · obtain ⟨o, us, file, tf, flags, tg, inF, text, tt, q0, q1, q2, q3, rest⟩ := ch p hp
    refine ⟨o, us, file, tf, flags, tg, inF, text, tt, keep q0 (fun v n z => by rw [q2] at z; cases z) (fun z => ?_), q1, q2, q3, rest⟩
    rw [q2] at z
    cases z
    simp at q3
  · obtain ⟨m, o, b1, b2, b3, b4, b5, b6⟩ := bm
    refine ⟨m, o, b1, b2, fun z => ?_, fun z => ?_, keep b3 (fun v n z => by rw [b6] at z; cases z) (fun z => by rw [b6] at z; cases z), b4, b5, b6⟩
    · obtain ⟨o2, es, ep, e, d, _⟩ := G
      rw [z, e] at b3
      cases b3
      rw [d] at b6
      cases b6
    · rw [z, tb p hp] at b3
      cases b3
      cases b6
  · rcases tr b u q with ⟨z, _, z3⟩ | ⟨⟨p, hp, z⟩, z3⟩
    · rw [z, z3]
      exact ⟨sc, by rw [List.length_map]; exact len, vs, _, rv, sc⟩
    · rw [← z, z3]
      exact tb p hp
  · match q : K.lookup a with
    | Option.none => exact .inl (.inr ⟨_, by unfold H1st; rw [if_pos ⟨rfl, q⟩]⟩)
    | some o =>
      have e := KX a o q
      rw [sc] at e
      cases e
      exact .inr ⟨_, vs.toArray, _, q, rfl, rfl, rfl, by rw [List.size_toArray, iv.length]; exact len, by simpa using rv⟩
  · match q : H1st K a cs vs ns b with
    | Option.none => exact .inl rfl
    | some u =>
      rcases tr b u q with ⟨_, _, z3⟩ | ⟨z, _⟩
      · rw [z3]; exact .inr (.inr ⟨_, _, rfl⟩)
      · exact .inr (.inl z)
/-- what stood before the law stands behind it -/
theorem leave {H H2 : Hp} {s2 : Shared} (tb : ∀ p ∈ cs, s.heap.get? p.2 = some ({ cls := .none, data := .fields #[] } : Obj)) (ch : ∀ p ∈ cs, PySem.W.CodeHd s.heap p.1 p.2) (tt : ∀ p ∈ cs, H p.2 = some (.tbl #[]))
    (only : ∀ b, H b = Option.none ∨ (∃ p ∈ cs, p.2 = b) ∨ ∃ o xs, H b = some (.frz o (.lst xs))) (h1 : HOk P w H s.heap) (u : Un (frs []) [] H H2 s.heap s2.heap) (h2 : HOk P w H2 s2.heap) : OldK s.heap s2.heap := by
  have same : ∀ b o, ¬ (∃ p ∈ cs, p.2 = b) → s.heap.get? b = some o → s2.heap.get? b = some o := fun b o n e => by
    rcases only b with z | z | ⟨ob, xs, z⟩
    · exact u.keep b o e z List.not_mem_nil List.not_mem_nil
    · exact (n z).elim
    · have q1 := (h1 b _ z).1
      have q2 := (h2 b _ (u.frzs b ob _ z)).1
      rw [e] at q1
      rw [q2, Option.some.inj q1]
  have more : ∀ p ∈ cs, ∃ ps : Array Value, s2.heap.get? p.2 = some ({ cls := .none, data := .fields ps } : Obj) := fun p hp => by
    obtain ⟨ps, z⟩ := u.tbls p.2 #[] (tt p hp)
    exact ⟨_, h2 p.2 _ z⟩
  refine ⟨fun b o e => ?_, fun b o e => ?_⟩
  all_goals by_cases hb : ∃ p ∈ cs, p.2 = b
  · obtain ⟨p, hp, rfl⟩ := hb
    obtain ⟨ps, z⟩ := more p hp
    have e2 := e
    rw [tb p hp] at e2
    cases e2
    exact .inr (.inl ⟨((ch p hp).tab (tb p hp)).isCodeTable, rfl, #[], ps, rfl, by rw [Array.empty_append]; exact z⟩)
  · exact .inl (same b o hb e)
  · obtain ⟨p, hp, rfl⟩ := hb
    exact ⟨_, (more p hp).choose_spec⟩
  · exact ⟨o, same b o hb e⟩
end
/-- what is shown of the law behind the head: its promise, and the tables that it leans on -/
def LawG (l : PySem.W.OpenLaw) (w : World) (K : PySem.W.Frag) (k : Nat) (mg : Str → Option Value) (fa : Addr) (h : Heap) : Prop :=
  ∃ (cs : List (Addr × Addr)) (sp : Sp), (∀ p ∈ cs, h.get? p.2 = some ({ cls := .none, data := .fields #[] } : Obj)) ∧ (∀ p ∈ cs, K.lookup p.2 = Option.none) ∧ (∀ p ∈ cs, PySem.W.CodeHd h p.1 p.2) ∧
    (∀ (H : Hp) (a : Addr) (ns : List Int), ns.length ≤ 63 → (∀ z ∈ ns, Builtin.Int.intBits z ≤ 1048576) → (∀ p ∈ cs, H p.2 = some (.tbl #[])) → SqL K H a (ns.map V.int) → sp [.ref a] H (fun v _ => v = .bl true) fun _ _ _ => False) ∧
    ∀ base : Heap, K.In base → base.Ns mainGlobals mg → (∀ p ∈ cs, LamX.TabB base mg p.1 p.2) → FnG l.prog w K mg base CX0 k fa sp
/-- the table of the def x is empty behind the top -/
def TabOf (K : PySem.W.Frag) (mg : Str → Option Value) (h : Heap) (x : Str) : Prop := ∀ (f c P : Addr) (o : Obj) (fd : FuncData) (e : Value) (dd : Option Addr) (vs : Array Value) (sl : Array (Option Value)), mg x = some (.ref f) → K.lookup f = some o → o.data = .func fd → fd.code = .ref c →
  K.lookup c = some ⟨e, dd, .fields vs, sl⟩ → vs[11]? = some (.ref P) → h.get? P = some ({ cls := .none, data := .fields #[] } : Obj) ∧ PySem.W.CodeHd h c P
theorem walkG {l : PySem.W.OpenLaw} {k : Nat} {q : Program} {loose : List Str} {XP : (Str → Option Value) → Heap → Prop} {YP : World → Heap → Prop} {d : DefRec} {K : Params → PySem.W.Frag} (xs : List Str) (hxs : (xs.all fun x => (recsOf q).any fun e => e.name == x) = true)
    (hn : l.most = some 63) (hdf : d.params.defaults = []) (hr : Room k callerA) (hY : ∀ (w : World) (h : Heap), YP w h → (K w.params).In h)
    (F : ∀ (w : World) (mg : Str → Option Value) (fa : Addr) (h : Heap), (K w.params).In h → h.Ns mainGlobals mg → mg d.name = some (.ref fa) → (∀ x ∈ xs, TabOf (K w.params) mg h x) → LawG l w (K w.params) k mg fa h) :
    PySem.W.WalkO q loose XP YP l.row.toRowW d [] (fun f vs => PySem.call f vs) := by
  refine Att.attach_callB hn hdf fun w s₀ s mg mb fa o pm cd doc a vs ns G Y _ _ _ hmg hobj hints hlen hbits hg => ?_
  have KX := hY w _ Y
  have tabs : ∀ x ∈ xs, TabOf (K w.params) mg s.heap x := fun x hx f c P o fd e dd us sl m1 m2 m3 m4 m5 m6 => by
    obtain ⟨r, hr1, hr2⟩ := List.any_eq_true.mp (List.all_eq_true.mp hxs x hx)
    obtain ⟨f2, o2, fd2, c2, P2, t1, t2, t3, t4, t5, t6⟩ := G.T.tab r hr1
    rw [beq_iff_eq.mp hr2, m1] at t1
    cases t1
    rw [KX _ _ m2] at t2
    cases t2
    rw [m3] at t3
    cases t3
    rw [m4] at t4
    cases t4
    have hd := PySem.W.CodeHd.of t5 t6
    obtain ⟨⟨oc, vc, u1, _, u3, u4⟩, hP⟩ := t6
    rw [KX _ _ m5] at u1
    cases u1
    cases u3
    rw [m6] at u4
    cases u4
    exact ⟨hP, hd⟩
  obtain ⟨cs, sp, tb, tk, ch, hsp, FG⟩ := F w mg fa _ KX G.T.g hmg tabs
  obtain ⟨H, base, kin, ns1, TB, e0, tt, hS, only⟩ := entry (P := l.prog) (w := w) KX G.T.g G.T.b G.T.builtins G.T.nolimit hg tb tk ch G.T.bmain hobj hints (Nat.le_trans hlen (by decide))
  refine codeAny_mono (FG base kin ns1 TB callerA [] s H [.ref a] [.ref a] _ _ rfl hr e0 (.cons rfl .nil) (hsp H a ns hlen hbits tt hS)) fun r s2 h => ?_
  match r, h with
  | .ok (.ret u), ⟨v, H2, os, bare, un, hok, rel, e⟩ =>
    have e' : v = .bl true := e
    subst e'
    have eu : u = Value.bool true := rel
    subst eu
    exact ⟨rfl, leave tb ch tt only e0.hok un hok, os, bare⟩

/-! ### repr -/
/-- v is read as the datum d: as Dp, and dicts of no entry or one -/
inductive Dq (K : PySem.W.Frag) (H : Hp) : V → PyData → Prop where
  | dp {v : V} {d : PyData} : Dp K H v d → Dq K H v d
  | d0 {a : Addr} : H a = some (.dK []) → Dq K H (.ref a) (.dict [])
mutual
theorem dp_nodict {K : PySem.W.Frag} {H : Hp} : ∀ (d : PyData) (v : V), Dp K H v d → d.hasDict = false
  | .none, _, _ => rfl
  | .bool _, _, _ => rfl
  | .int _, _, _ => rfl
  | .str _, _, _ => rfl
  | .list ds, _, h => by
    cases h with
    | lst _ ha => exact dp_nodictAll ds _ ha
  | .tuple ds, _, h => by
    cases h with
    | tup _ ha => exact dp_nodictAll ds _ ha
  | .dict _, _, h => by cases h
theorem dp_nodictAll {K : PySem.W.Frag} {H : Hp} : ∀ (ds : List PyData) (vs : List V), DpAll K H vs ds → PyData.hasDictAll ds = false
  | [], _, _ => rfl
  | d :: ds, _, h => by
    cases h with
    | cons h1 h2 =>
      show (PyData.hasDict d || PyData.hasDictAll ds) = false
      rw [dp_nodict d _ h1, dp_nodictAll ds _ h2]
      rfl
end
theorem Dq.reads {X : Cx} {pins : List (Addr × Obj)} {σ : L2.St} {H : Hp} {s : Shared} (I : Inv X pins σ H s) {v : V} {d : PyData} {u : Value} (h : Dq X.K H v d) (r : RelV v u) : ∃ as, Reads s.heap u d as ∧ (d.hasDict = true → sysModules ∉ as) := by
  cases h with
  | dp h =>
    obtain ⟨as, q⟩ := Dp.reads I _ _ _ h r
    exact ⟨as, q, fun z => by rw [dp_nodict _ _ h] at z; cases z⟩
  | @d0 a h =>
    obtain rfl : u = Value.ref a := r
    obtain ⟨_, ns, vs, kv, o, es, ep, e1, e2, e3, e4⟩ := (show ObjOk X.prog X.w H s.heap a (.dK []) from I.hok a _ h)
    cases kv
    have e5 : es.toList = [] := by
      have e6 := e4.2.1
      generalize es.toList = l at e6
      cases e6
      rfl
    refine ⟨[a] ++ [] ++ [], Reads.dict e1 e2.1 e3 (by rw [e5]; exact .nil) (by rw [e5]; exact .nil), fun _ z => ?_⟩
    have z' : sysModules = a := by simpa using z
    rw [← z'] at ns
    simp at ns
def rRep (K : PySem.W.Frag) : List V → Hp → VK → Prop := fun vs H Q => ∃ v d, vs = [v] ∧ Dq K H v d ∧ d.showable = true ∧ d.depth ≤ 60 ∧ ((∃ i, d = .int i) ∨ d.shown.length ≤ sizeLine) ∧ Q (.str d.shown) H
theorem call_rep {X : Cx} (gu : X.A.guards = some []) (hu : X.A.units + 64 < cLine) : CallR X (.builtin "repr") (rRep X.K) := by
  intro pins s σ H xs us Q I r h
  obtain ⟨v, d, rfl, hd, h1, h2, h3, q⟩ := h
  obtain ⟨u, rfl, ru⟩ := vals1 r
  obtain ⟨as, rd, ns⟩ := hd.reads I ru
  have done : ∀ (h' : Heap) (t : Tok) (tk : Nat), (∀ b o, s.heap.get? b = some o → h'.get? b = some o) → EP X pins σ Q (.str d.shown t) { s with heap := h', toks := tk } := fun h' t tk k => ⟨.str d.shown, H, I.kept (t' := tk) k, ⟨t, rfl⟩, q⟩
  have same : ∀ t tk, EP X pins σ Q (.str d.shown t) { s with toks := tk } := fun t tk => done s.heap t tk fun _ _ z => z
  have h3 : (∀ i, d ≠ .int i) → d.shown.length ≤ sizeLine := fun n => h3.resolve_left fun ⟨i, z⟩ => n i z
  cases rd with
  | none => exact PySem.P.repr_of_none (same _ _)
  | bool b => exact PySem.P.repr_of_bool (same _ _)
  | int i t => exact PySem.P.repr_of_int (of_decide_eq_true h1) (same _ _)
  | str x t => exact PySem.P.repr_of_str (same _ _) (h3 fun _ z => nomatch z)
  | list e1 e2 e3 e4 => exact PySem.repr_of_reads' (.list e1 e2 e3 e4) h1 ns gu (by omega) (fun _ _ z => z) (fun h' u tk k => done h' u tk k) (h3 fun _ z => nomatch z)
  | tuple e1 e2 e3 e4 => exact PySem.repr_of_reads' (.tuple e1 e2 e3 e4) h1 ns gu (by omega) (fun _ _ z => z) (fun h' u tk k => done h' u tk k) (h3 fun _ z => nomatch z)
  | dict e1 e2 e3 e4 e5 => exact PySem.repr_of_reads' (.dict e1 e2 e3 e4 e5) h1 ns gu (by omega) (fun _ _ z => z) (fun h' u tk k => done h' u tk k) (h3 fun _ z => nomatch z)

/-- the target a, b within a comprehension: told of the written part and of the number of names -/
theorem pg_tup2 {X : Cx} {es : List Expr} {k : Nat} {t : TGs} {pos : Pos} (K : PySem.W.Frag) (n : Nat) (hK : X.K = K) (hc : X.calm = true) (h : PGs X es t) (hn : (assignEach es X.env).length = n := by rfl) (hst : (assignEach es X.env).findIdx? (·.1) = none := by rfl) : PG X (.Tuple es k pos) (gTup K n t) := by
  subst hK
  exact pg_tup hc h hn hst
theorem ix_tup2 {X : Cx} (K : PySem.W.Frag) (hK : X.K = K) : IxR X (rIxT K) := by
  subst hK
  exact ix_tup
theorem ix_list2 {X : Cx} (K : PySem.W.Frag) (hK : X.K = K) : IxR X (rIxL K) := by
  subst hK
  exact ix_list
theorem op_eqD2 {X : Cx} (K : PySem.W.Frag) (hK : X.K = K) (hu : X.A.units + 64 < cLine) : OpR X (compareOp .Eq) (rEqD K) := by
  subst hK
  exact op_eqD hu
theorem sl_list2 {X : Cx} (K : PySem.W.Frag) (hK : X.K = K) : SlR X (rSlL K) := by
  subst hK
  exact sl_list
theorem op_in_seq2 {X : Cx} (K : PySem.W.Frag) (hK : X.K = K) : OpR X (compareOp .In) (rIn K false) := by
  subst hK
  exact op_in_seq
theorem op_notIn_seq2 {X : Cx} (K : PySem.W.Frag) (hK : X.K = K) : OpR X (compareOp .NotIn) (rIn K true) := by
  subst hK
  exact op_notIn_seq

/-! ### values by kinds; numbers that are refused -/
/-- v is of the built-in kind t -/
inductive NT (H : Hp) : V → String → Prop where
  | non : NT H .non "NoneType"
  | bl (b : Bool) : NT H (.bl b) "bool"
  | int (i : Int) : NT H (.int i) "int"
  | str (x : Str) : NT H (.str x) "str"
  | lst {a : Addr} {xs : List V} : H a = some (.lst xs) → NT H (.ref a) "list"
  | tup {a : Addr} {xs : List V} : H a = some (.tup xs) → NT H (.ref a) "tuple"
  | dic {a : Addr} {kvs : List (Key × V)} : H a = some (.dK kvs) → NT H (.ref a) "dict"
theorem NT.same {H H' : Hp} (s : Same H H') {v : V} {t : String} (h : NT H v t) : NT H' v t := by
  cases h with
  | non => exact .non
  | bl b => exact .bl b
  | int i => exact .int i
  | str x => exact .str x
  | lst e => exact .lst (s _ _ e)
  | tup e => exact .tup (s _ _ e)
  | dic e => exact .dic (s _ _ e)
theorem NT.ty {K : PySem.W.Frag} {H : Hp} {v : V} {t : String} (h : NT H v t) : TyX K H v (.type t) := by
  cases h with
  | non => exact .base .non
  | bl b => exact .base (.bl b)
  | int i => exact .base (.int i)
  | str x => exact .base (.str x)
  | lst e => exact .base (.lst e)
  | tup e => exact .base (.tup e)
  | dic e => exact .base (.dK e)
theorem NT.kit {H : Hp} {v : V} {t : String} (h : NT H v t) : ∃ b1 b2, kitB t "int" = some b1 ∧ kitB t "bool" = some b2 ∧ (b1 && !b2) = (t == "int") := by
  cases h with
  | non => exact ⟨false, false, by decide +kernel, by decide +kernel, by decide +kernel⟩
  | bl b => exact ⟨true, true, by decide +kernel, by decide +kernel, by decide +kernel⟩
  | int i => exact ⟨true, false, by decide +kernel, by decide +kernel, by decide +kernel⟩
  | str x => exact ⟨false, false, by decide +kernel, by decide +kernel, by decide +kernel⟩
  | lst e => exact ⟨false, false, by decide +kernel, by decide +kernel, by decide +kernel⟩
  | tup e => exact ⟨false, false, by decide +kernel, by decide +kernel, by decide +kernel⟩
  | dic e => exact ⟨false, false, by decide +kernel, by decide +kernel, by decide +kernel⟩
theorem NT.tupB {H : Hp} {v : V} {t : String} (h : NT H v t) : kitB t "tuple" = some (t == "tuple") := by
  cases h <;> decide +kernel
theorem NT.isInt {H : Hp} {v : V} {t : String} (h : NT H v t) (e : t = "int") : ∃ i, v = .int i := by
  cases h with
  | int i => exact ⟨i, rfl⟩
  | _ => exact absurd e (by decide)
/-- def f(*v) of the text, which may raise -/
theorem star_okX {x qual pv : Str} {k : Nat} {st : Stmt} {f : Addr} {fd : FuncData} {N : List Str} {sp : List V → Hp → VK → XK → Prop}
    (F : Fun K x qual st f fd) (S : FnScope N [pv] (defScope st))
    (hb : ∀ (kV doc pm : Value) (an : Option Addr) (cdv ct : Value) (rest : List Value), bindArgs (PySem.W.fnOf x qual (defArgs st) (defBody st) (defScope st) .none kV doc pm an cdv ct) { pos := rest, kw := [] } = (newTuple rest >>= fun t => pure [(pv, t)]))
    (go : ∀ (cdv : Value) (A : Around) (outer : List Env) (s : Shared) (H : Hp) (vs : List V) (p : Addr) (H0 : Hp) (Q : VK) (E : XK), Room k (A.deeper (envOfC qual (defScope st) s.heap.objs.size f cdv)) → sp vs H0 Q E → vs.length ≤ sizeLine → H0 p = Option.none → H = upd H0 p (.tup vs) →
      ∃ t, PSs (cxOf (L2.CX P w) P w K mg base N qual (defScope st) f cdv A outer s H E) (defBody st) t ∧ t { nx := fun _ H1 => Q .non H1, rt := Q } (start N [V.ref p]) H) :
    FnR P w K mg base (L2.CX P w) (k + 1) f (fun vs H Q E => vs.length ≤ sizeLine ∧ sp vs H Q E) := by
  obtain ⟨oc, od, kV, doc, pm, an, cdv, ct, osl, e, lk, hcd⟩ := F.ex
  subst e
  refine FnR.imp (fn_star (ps := []) (pv := pv) (CX := L2.CX P w) (sp := fun ws H Q E => ∃ (vs : List V) (p : Addr) (H0 : Hp), ws = [V.ref p] ∧ sp vs H0 Q E ∧ vs.length ≤ sizeLine ∧ H0 p = Option.none ∧ H = upd H0 p (.tup vs)) lk hcd S cxUp (fun us rest hl => ?_) fun A outer s H vs Q E hr h => ?_) fun vs H Q E h => ?_
  · have e : us = [] := List.length_eq_zero_iff.mp hl
    subst e
    show bindArgs _ { pos := rest, kw := [] } = _
    rw [hb]
    rfl
  · obtain ⟨ws, p, H0, rfl, hs, hl, hp, rfl⟩ := h
    exact go cdv A outer s _ ws p H0 Q E hr hs hl hp rfl
  · exact ⟨[], vs, rfl, rfl, h.1, fun p hp => ⟨vs, p, H, rfl, h.2, h.1, hp, rfl⟩⟩

/-! ### the error BadWheel -/
/-- what the written part says of BadWheel, at C, and of its __init__ -/
structure BadW (K : PySem.W.Frag) (mg : Str → Option Value) where
  C : Addr
  f : Addr
  fd : FuncData
  oex : OexC K C
  iC : PySem.W.findIn K (.ref C) "__init__" = some (some (.ref f))
  tI : PySem.W.typeIn K (.ref f) = some (.type "function")
  F : Fun K "__init__" "BadWheel.__init__" s_BadWheel_init f fd
  no : PySem.W.findIn K (.ref C) "part" = some Option.none
  m : mg "BadWheel" = some (.ref C)
/-- the init of an error of one field -/
def spInit1 (K : PySem.W.Frag) (f : Str) : Sp := fun vs H Q _ => ∃ (a C : Addr) (v : V), vs = [.ref a, v] ∧ OexC K C ∧ PySem.W.findIn K (.ref C) f = some Option.none ∧ H a = some (exo a C Option.none) ∧
  ∀ dx, H dx = Option.none → dx ≠ a → Q .non (upd (upd H dx (exd dx [(f, v)])) a (exo a C (some dx)))
theorem ok_badW_init (B : BadW K mg) : FnOk P w K mg base CX0 1 B.f B.fd ["self", "part"] (spInit1 K "part") := by
  refine B.F.ok sc_BadWheel_init (fun vs H Q E h => ?_) (fun cdv A outer s H vs Q E hr h => ?_)
  · obtain ⟨a, C, v, rfl, _⟩ := h; rfl
  · obtain ⟨a, C, v, rfl, T, no, ha, k⟩ := h
    refine ⟨_, pss_one (ps_ost (pv 0) (pv 1)), ?_⟩
    exact ⟨_, rfl, _, rfl, a, C, rfl, T, no, .inl ⟨ha, k⟩⟩
theorem b_badW (B : BadW K mg) : Binds K B.fd ["self", "part"] [] := B.F.binds (ps := ["self", "part"]) fun _ _ _ _ _ _ us hl => match us, hl with | [_, _], _ => rfl
theorem pmk_badW {X : Cx} {x : Expr} {te : TE} {p pos : Pos} (B : BadW X.K X.mg) (hr : Room 2 X.A) (hg : Gl X "BadWheel") (he : PE X x te)
    (hs : starEach (x :: []) X.env = (false, eval x X.env) :: starEach [] X.env := by rfl) (hpl : (backTo pos (starEach [] X.env)).any (·.1) = false := by rfl) : PMk X (.Call (.Name "BadWheel" p) [x] [] pos) (tMkO B.C (spInit1 X.K "part") [] (tCons te tNil)) :=
  pmk_oex (CX := CX0) (dvs := []) (ds := []) B.oex B.iC B.tI (ok_badW_init B) hr (b_badW B) .nil (fun _ _ _ _ _ _ _ z => z.elim) hg B.m (pa_cons he pa_nil hs) (by decide) hs hpl
/-- how its reading is answered -/
theorem badW_fin (B : BadW K mg) {H : Hp} {a : Addr} {v : V} {Q : XK} (ha : H a = Option.none) (k : ∀ (d : Addr) (H2 : Hp), Same H H2 → H d = Option.none → H2 d = some (.xd [("part", v)]) → Q (.ref B.C) (some d) H2) :
    spInit1 K "part" (.ref a :: ([v] ++ [])) (upd H a (exo a B.C Option.none)) (fun v' H2 => v' = .non ∧ ∃ (d : Addr) (fs : List (Str × V)), H2 a = some (exo a B.C (some d)) ∧ H2 d = some (exd d fs) ∧ H d = Option.none ∧ Q (.ref B.C) (some d) (upd (del H2 a) d (.xd fs))) (fun _ _ _ => False) := by
  refine ⟨a, B.C, v, rfl, B.oex, B.no, upd_same, fun dx h1 h2 => ⟨rfl, dx, _, upd_same, by rw [upd_ne h2, upd_same], ?_, ?_⟩⟩
  · rw [upd_ne h2] at h1; exact h1
  · have hd : H dx = Option.none := by rw [upd_ne h2] at h1; exact h1
    refine k dx _ (fun b o e => ?_) hd upd_same
    have n1 := ne_of_none e ha
    have n2 := ne_of_none e hd
    rw [upd_ne n2, del_ne n1, upd_ne n1, upd_ne n2, upd_ne n1]
    exact e

/-! ### errors of our own whose context is None -/
theorem pmk_oexN {X : Cx} {CX : CXT} {x : Str} {e : Expr} {es : List Expr} {ta : TA} {p pos : Pos} {C fI : Addr} {k : Nat} {fd : FuncData} {ps : List Str} {sp : Sp} {ds : List Value} {dvs : List V} (T : OexC X.K C) (iC : PySem.W.findIn X.K (.ref C) "__init__" = some (some (.ref fI))) (tI : PySem.W.typeIn X.K (.ref fI) = some (.type "function"))
    (F1 : FnOk X.prog X.w X.K X.mg X.base CX k fI fd ps sp) (hr : Room (k + 1) X.A) (hb : Binds X.K fd ps ds) (hd : Vals dvs ds) (hx : Passes CX X (fun _ _ _ => False)) (hg : Gl X x) (hm : X.mg x = some (.ref C)) (ha : PA X (e :: es) ta)
    (hdb : (x == ("__debug__" : Str)) = false := by decide) (he : starEach (e :: es) X.env = (false, eval e X.env) :: starEach es X.env := by rfl) (hpl : (backTo pos (starEach es X.env)).any (·.1) = false := by rfl) :
    L2N.PMk X (.Call (.Name x p) (e :: es) [] pos) (tMkO C sp dvs ta) := by
  intro pins s σ H Q I h
  obtain ⟨nm, q, N, bs, bm, sn, sub, ab, col, dd, k0, k1, k2, k3, k5, hC, hbm⟩ := T.cls
  refine wpAny_Call_Name_kw (ld_glob I hg hm ?_ hdb)
  refine PySem.W.callWith_K (h₀ := X.base) I.ok.mod.kin T.kC (thn (ha.run pos pins s σ H _ I h) fun us s1 ⟨vs, H1, I1, r1, hz, q1⟩ => ⟨I1.kIn, ?_⟩) he hpl
  show wpAny _ _ (call (.ref C) us) _ _ _
  obtain ⟨hp, g, dr, tk, os⟩ := s1
  have hsz : hp.objs.size ≤ hp.objs.size + 1 := Nat.le_succ _
  have hn : H1 (hp.objs.size + 1) = none := I1.hok.fresh hsz
  have hq := q1 (hp.objs.size + 1) hn
  have kk : ∀ b o, hp.get? b = some o → ((hp.push (PySem.W.kdv_tup us)).push (PySem.HandSPX.excO C hp.objs.size)).get? b = some o := fun b o e => Heap.get?_push_of_some _ (Heap.get?_push_of_some _ e)
  have hget : ((hp.push (PySem.W.kdv_tup us)).push (PySem.HandSPX.excO C hp.objs.size)).get? (hp.objs.size + 1) = some (PySem.HandSPX.excO C hp.objs.size) := by heap_get
  have I2 : Inv X pins σ (upd H1 (hp.objs.size + 1) (exo (hp.objs.size + 1) C none)) ⟨(hp.push (PySem.W.kdv_tup us)).push (PySem.HandSPX.excO C hp.objs.size), g, dr, tk, os⟩ :=
    I1.laid (t' := tk) (a := hp.objs.size + 1) (o := exo (hp.objs.size + 1) C none) (h' := (hp.push (PySem.W.kdv_tup us)).push (PySem.HandSPX.excO C hp.objs.size)) kk hsz (exo_ok hget)
  have r2 : Vals (V.ref (hp.objs.size + 1) :: (vs ++ dvs)) (Value.ref (hp.objs.size + 1) :: (us ++ ds)) := .cons rfl (r1.append hd)
  have hl : (Value.ref (hp.objs.size + 1) :: us ++ ds).length = ps.length := by
    have e := r2.length
    rw [F1.len _ _ _ _ hq] at e
    exact e.symm
  have hus : us.length ≤ sizeLine := by
    rw [← Paired.length r1, sizeLine_eq]
    omega
  refine wpAny_call (PySem.HandSPX.call_own F.excBase_ValueError (fun Y => PySem.HandSPX.refsVE_contains Y bm hbm) (I1.kIn _ _ hC) (PySem.W.looks_findIn I1.kIn iC) (fun self => PySem.W.bind_fn I1.kIn self tI) hus
    (codeAny_mono (F1.run _ X.stack _ _ ⟨Value.ref (hp.objs.size + 1) :: us, []⟩ (Value.ref (hp.objs.size + 1) :: (us ++ ds)) _ _ (fun _ _ _ => False) (hr.make C us []) (I2.env0.make C us []) (hb _ (Value.ref (hp.objs.size + 1) :: us) I2.kIn hl) r2 hq) fun r s' hq' => ?_))
  cases r with
  | error er => exact hx pins σ _ _ er s' I2 hq'
  | ok fl =>
    cases fl with
    | ret u =>
      obtain ⟨v, H2, os2, bare2, un2, hok2, rv, ev, d, fs, ea, ed, hd1, q2⟩ := hq'
      subst ev
      obtain ⟨h2, g2, d2, t2, os'⟩ := s'
      obtain ⟨t0, G, J, kG, ge, hoe, na⟩ := mk_end0 (d2 := d2) (t2 := t2) I1 hsz kk un2 hok2 os2 bare2 ea ed hd1
      refine ⟨rv, ⟨hp.objs.size + 1, _, _, ⟨G, g2, d2, t2, os'⟩, _, .ref C, some d, rfl, J, kG, ge, hoe, ⟨rfl, rfl, fun vs hv => ?_⟩, rfl, rfl, na, rfl, bare2, raises_own T.exC T.tyC, q2⟩⟩
      cases hv
      rfl
    | next => exact False.elim hq'
    | brk => exact False.elim hq'
    | cont => exact False.elim hq'
/-- as Fun.okX, for a def whose errors have no context -/
theorem Fun.okN {P : Program} {w : World} {K : PySem.W.Frag} {mg : Str → Option Value} {base : Heap} {x qual : Str} {st : Stmt} {f : Addr} {fd : FuncData} {N ps : List Str} {k : Nat} {sp : Sp} (F : Fun K x qual st f fd) (S : FnScope N ps (defScope st)) (len : ∀ vs H Q E, sp vs H Q E → vs.length = ps.length)
    (hbody : ∀ (cdv : Value) (A : Around) (outer : List Env) (s : Shared) (H : Hp) (vs : List V) (Q : VK) (E : XK), Room k (A.deeper (envOfC qual (defScope st) s.heap.objs.size f cdv)) → sp vs H Q E →
      ∃ t, PSs (cxOf (L2N.CX P w) P w K mg base N qual (defScope st) f cdv A outer s H E) (defBody st) t ∧ t { nx := fun _ H' => Q .non H', rt := Q } (start N vs) H) : FnOk P w K mg base (L2N.CX P w) (k + 1) f fd ps sp := by
  obtain ⟨oc, od, kV, doc, pm, an, cdv, ct, osl, rfl, lk, hcd⟩ := F.ex
  exact fn_of lk hcd S len fun A outer s H vs Q E hr hsp => hbody cdv A outer s H vs Q E hr hsp
/-- the same while an error is handled -/
theorem Fun.okH {P : Program} {w : World} {K : PySem.W.Frag} {mg : Str → Option Value} {base : Heap} {x qual : Str} {st : Stmt} {f : Addr} {fd : FuncData} {N ps : List Str} {k : Nat} {sp : Sp} (F : Fun K x qual st f fd) (S : FnScope N ps (defScope st)) (len : ∀ vs H Q E, sp vs H Q E → vs.length = ps.length)
    (hbody : ∀ (cdv : Value) (A : Around) (outer : List Env) (s : Shared) (H : Hp) (vs : List V) (Q : VK) (E : XK) (p : Addr × Obj), L2H.RoomH k (A.deeper (envOfC qual (defScope st) s.heap.objs.size f cdv)) → sp vs H Q E →
      ∃ t, PSs (L2H.cxH CX0 P w K mg base N qual (defScope st) f cdv A outer s H E p) (defBody st) t ∧ t { nx := fun _ H' => Q .non H', rt := Q } (start N vs) H) : L2H.FnH P w K mg base CX0 (k + 1) f fd ps sp := by
  obtain ⟨oc, od, kV, doc, pm, an, cdv, ct, osl, rfl, lk, hcd⟩ := F.ex
  exact L2H.fn_ofH lk hcd S len fun A outer s H vs Q E p hot hr hsp => hbody cdv A outer s H vs Q E p hr hsp
/-- .. which may call others then -/
theorem Fun.okHc {P : Program} {w : World} {K : PySem.W.Frag} {mg : Str → Option Value} {base : Heap} {x qual : Str} {st : Stmt} {f : Addr} {fd : FuncData} {N ps : List Str} {k : Nat} {sp : Sp} (F : Fun K x qual st f fd) (S : FnScope N ps (defScope st)) (len : ∀ vs H Q E, sp vs H Q E → vs.length = ps.length)
    (hbody : ∀ (cdv : Value) (A : Around) (outer : List Env) (s : Shared) (H : Hp) (vs : List V) (Q : VK) (E : XK) (p : Addr × Obj), L2H.HotC (L2H.cxH CX0 P w K mg base N qual (defScope st) f cdv A outer s H E p) → L2H.RoomH k (A.deeper (envOfC qual (defScope st) s.heap.objs.size f cdv)) → sp vs H Q E →
      ∃ t, PSs (L2H.cxH CX0 P w K mg base N qual (defScope st) f cdv A outer s H E p) (defBody st) t ∧ t { nx := fun _ H' => Q .non H', rt := Q } (start N vs) H) : L2H.FnH P w K mg base CX0 (k + 1) f fd ps sp := by
  obtain ⟨oc, od, kV, doc, pm, an, cdv, ct, osl, rfl, lk, hcd⟩ := F.ex
  exact L2H.fn_ofH lk hcd S len fun A outer s H vs Q E p hot hr hsp => hbody cdv A outer s H vs Q E p ⟨p, hot, List.mem_cons_self⟩ hr hsp

/-! ### the errors BadShelf, BadDeed and TooMany -/
structure BadS (K : PySem.W.Frag) (mg : Str → Option Value) where
  C : Addr
  f : Addr
  fd : FuncData
  oex : OexC K C
  iC : PySem.W.findIn K (.ref C) "__init__" = some (some (.ref f))
  tI : PySem.W.typeIn K (.ref f) = some (.type "function")
  F : Fun K "__init__" "BadShelf.__init__" s_BadShelf_init f fd
  no : PySem.W.findIn K (.ref C) "part" = some Option.none
  m : mg "BadShelf" = some (.ref C)
theorem ok_badS_init (B : BadS K mg) : FnOk P w K mg base CX0 1 B.f B.fd ["self", "part"] (spInit1 K "part") := by
  refine B.F.ok sc_BadShelf_init (fun vs H Q E h => ?_) (fun cdv A outer s H vs Q E hr h => ?_)
  · obtain ⟨a, C, v, rfl, _⟩ := h; rfl
  · obtain ⟨a, C, v, rfl, T, no, ha, k⟩ := h
    exact ⟨_, pss_one (ps_ost (pv 0) (pv 1)), _, rfl, _, rfl, a, C, rfl, T, no, .inl ⟨ha, k⟩⟩
theorem b_badS (B : BadS K mg) : Binds K B.fd ["self", "part"] [] := B.F.binds (ps := ["self", "part"]) fun _ _ _ _ _ _ us hl => match us, hl with | [_, _], _ => rfl
theorem pmk_badS {X : Cx} {x : Expr} {te : TE} {p pos : Pos} (B : BadS X.K X.mg) (hr : Room 2 X.A) (hg : Gl X "BadShelf") (he : PE X x te)
    (hs : starEach (x :: []) X.env = (false, eval x X.env) :: starEach [] X.env := by rfl) (hpl : (backTo pos (starEach [] X.env)).any (·.1) = false := by rfl) : L2N.PMk X (.Call (.Name "BadShelf" p) [x] [] pos) (tMkO B.C (spInit1 X.K "part") [] (tCons te tNil)) :=
  pmk_oexN (CX := CX0) (dvs := []) (ds := []) B.oex B.iC B.tI (ok_badS_init B) hr (b_badS B) .nil (fun _ _ _ _ _ _ _ z => z.elim) hg B.m (pa_cons he pa_nil hs) (by decide) hs hpl
structure BadD (K : PySem.W.Frag) (mg : Str → Option Value) where
  C : Addr
  f : Addr
  fd : FuncData
  oex : OexC K C
  iC : PySem.W.findIn K (.ref C) "__init__" = some (some (.ref f))
  tI : PySem.W.typeIn K (.ref f) = some (.type "function")
  F : Fun K "__init__" "BadDeed.__init__" s_BadDeed_init f fd
  no : PySem.W.findIn K (.ref C) "at" = some Option.none
  m : mg "BadDeed" = some (.ref C)
theorem ok_badD_init (B : BadD K mg) : FnOk P w K mg base CX0 1 B.f B.fd ["self", "at"] (spInit1 K "at") := by
  refine B.F.ok sc_BadDeed_init (fun vs H Q E h => ?_) (fun cdv A outer s H vs Q E hr h => ?_)
  · obtain ⟨a, C, v, rfl, _⟩ := h; rfl
  · obtain ⟨a, C, v, rfl, T, no, ha, k⟩ := h
    exact ⟨_, pss_one (ps_ost (pv 0) (pv 1)), _, rfl, _, rfl, a, C, rfl, T, no, .inl ⟨ha, k⟩⟩
theorem b_badD (B : BadD K mg) : Binds K B.fd ["self", "at"] [] := B.F.binds (ps := ["self", "at"]) fun _ _ _ _ _ _ us hl => match us, hl with | [_, _], _ => rfl
theorem pmk_badD {X : Cx} {x : Expr} {te : TE} {p pos : Pos} (B : BadD X.K X.mg) (hr : Room 2 X.A) (hg : Gl X "BadDeed") (he : PE X x te)
    (hs : starEach (x :: []) X.env = (false, eval x X.env) :: starEach [] X.env := by rfl) (hpl : (backTo pos (starEach [] X.env)).any (·.1) = false := by rfl) : L2N.PMk X (.Call (.Name "BadDeed" p) [x] [] pos) (tMkO B.C (spInit1 X.K "at") [] (tCons te tNil)) :=
  pmk_oexN (CX := CX0) (dvs := []) (ds := []) B.oex B.iC B.tI (ok_badD_init B) hr (b_badD B) .nil (fun _ _ _ _ _ _ _ z => z.elim) hg B.m (pa_cons he pa_nil hs) (by decide) hs hpl
theorem okh_badD_init (B : BadD K mg) : L2H.FnH P w K mg base CX0 1 B.f B.fd ["self", "at"] (spInit1 K "at") := by
  refine Fun.okH B.F sc_BadDeed_init (fun vs H Q E h => ?_) (fun cdv A outer s H vs Q E p hr h => ?_)
  · obtain ⟨a, C, v, rfl, _⟩ := h; rfl
  · obtain ⟨a, C, v, rfl, T, no, ha, k⟩ := h
    exact ⟨_, pss_one (ps_ost (pv 0) (pv 1)), _, rfl, _, rfl, a, C, rfl, T, no, .inl ⟨ha, k⟩⟩
theorem pmk_badDH {X : Cx} {x : Expr} {te : TE} {p pos : Pos} (B : BadD X.K X.mg) (hr : L2H.RoomH 2 X.A) (hc : L2H.HotC X) (hg : Gl X "BadDeed") (he : PE X x te)
    (hs : starEach (x :: []) X.env = (false, eval x X.env) :: starEach [] X.env := by rfl) (hpl : (backTo pos (starEach [] X.env)).any (·.1) = false := by rfl) : L2H.PMk5 X (.Call (.Name "BadDeed" p) [x] [] pos) (tMkO B.C (spInit1 X.K "at") [] (tCons te tNil)) :=
  L2H.pmk5_oexH (CX := CX0) B.oex B.iC B.tI (okh_badD_init B) hr hc (b_badD B) (fun _ _ _ _ _ _ _ z => z.elim) hg B.m (pa_cons he pa_nil hs) (by decide) hs hpl
structure TooM (K : PySem.W.Frag) (mg : Str → Option Value) where
  C : Addr
  f : Addr
  fd : FuncData
  oex : OexC K C
  iC : PySem.W.findIn K (.ref C) "__init__" = some (some (.ref f))
  tI : PySem.W.typeIn K (.ref f) = some (.type "function")
  F : Fun K "__init__" "TooMany.__init__" s_TooMany_init f fd
  no1 : PySem.W.findIn K (.ref C) "what" = some Option.none
  no2 : PySem.W.findIn K (.ref C) "most" = some Option.none
  m : mg "TooMany" = some (.ref C)
def spInitM (K : PySem.W.Frag) : Sp := fun vs H Q _ => ∃ (a C : Addr) (v u : V), vs = [.ref a, v, u] ∧ OexC K C ∧ PySem.W.findIn K (.ref C) "what" = some Option.none ∧ PySem.W.findIn K (.ref C) "most" = some Option.none ∧ H a = some (exo a C Option.none) ∧
  ∀ dx, H dx = Option.none → dx ≠ a → Q .non (upd (upd H dx (exd dx [("most", u), ("what", v)])) a (exo a C (some dx)))
theorem two_upM {H : Hp} {a d : Addr} {x y z : HO} (h : d ≠ a) : upd (upd (upd H d x) a z) d y = upd (upd H d y) a z := by
  funext b
  by_cases hb : b = d
  · rw [hb, upd_same, upd_ne h, upd_same]
  · rw [upd_ne hb]
    by_cases hc : b = a
    · rw [hc, upd_same, upd_same]
    · rw [upd_ne hc, upd_ne hc, upd_ne hb, upd_ne hb]
theorem ok_tooM_init (B : TooM K mg) : FnOk P w K mg base CX0 1 B.f B.fd ["self", "what", "most"] (spInitM K) := by
  refine B.F.ok sc_TooMany_init (fun vs H Q E h => ?_) (fun cdv A outer s H vs Q E hr h => ?_)
  · obtain ⟨a, C, v, u, rfl, _⟩ := h; rfl
  · obtain ⟨a, C, v, u, rfl, T, no1, no2, ha, k⟩ := h
    refine ⟨_, pss_cons (ps_ost (pv 0) (pv 1)) (pss_one (ps_ost (pv 0) (pv 2))), _, rfl, _, rfl, a, C, rfl, T, no1, .inl ⟨ha, fun dx h1 h2 => ?_⟩⟩
    refine ⟨_, rfl, _, rfl, a, C, rfl, T, no2, .inr ⟨dx, _, upd_same, by rw [upd_ne h2, upd_same], (by show 1 ≤ 900; decide), ?_⟩⟩
    rw [two_upM h2]
    exact k dx h1 h2
theorem b_tooM (B : TooM K mg) : Binds K B.fd ["self", "what", "most"] [] := B.F.binds (ps := ["self", "what", "most"]) fun _ _ _ _ _ _ us hl => match us, hl with | [_, _, _], _ => rfl
theorem pmk_tooM {X : Cx} {x y : Expr} {te tf : TE} {p pos : Pos} (B : TooM X.K X.mg) (hr : Room 2 X.A) (hg : Gl X "TooMany") (he : PE X x te) (hf : PE X y tf)
    (hs : starEach (x :: [y]) X.env = (false, eval x X.env) :: starEach [y] X.env := by rfl) (hs2 : starEach (y :: []) X.env = (false, eval y X.env) :: starEach [] X.env := by rfl) (hpl : (backTo pos (starEach [y] X.env)).any (·.1) = false := by rfl) : L2N.PMk X (.Call (.Name "TooMany" p) [x, y] [] pos) (tMkO B.C (spInitM X.K) [] (tCons te (tCons tf tNil))) :=
  pmk_oexN (CX := CX0) (dvs := []) (ds := []) B.oex B.iC B.tI (ok_tooM_init B) hr (b_tooM B) .nil (fun _ _ _ _ _ _ _ z => z.elim) hg B.m (pa_cons he (pa_cons hf pa_nil hs2) hs) (by decide) hs hpl
/-- how the reading of an error of one field is answered -/
theorem bad_fin1 {K : PySem.W.Frag} {C : Addr} {f : Str} (oex : OexC K C) (no : PySem.W.findIn K (.ref C) f = some Option.none) {H : Hp} {a : Addr} {v : V} {Q : XK} (ha : H a = Option.none) (k : ∀ (d : Addr) (H2 : Hp), Same H H2 → H d = Option.none → H2 d = some (.xd [(f, v)]) → Q (.ref C) (some d) H2) :
    spInit1 K f (.ref a :: ([v] ++ [])) (upd H a (exo a C Option.none)) (fun v' H2 => v' = .non ∧ ∃ (d : Addr) (fs : List (Str × V)), H2 a = some (exo a C (some d)) ∧ H2 d = some (exd d fs) ∧ H d = Option.none ∧ Q (.ref C) (some d) (upd (del H2 a) d (.xd fs))) (fun _ _ _ => False) := by
  refine ⟨a, C, v, rfl, oex, no, upd_same, fun dx h1 h2 => ?_⟩
  have hd : H dx = Option.none := by rw [upd_ne h2] at h1; exact h1
  refine ⟨rfl, dx, _, upd_same, by rw [upd_ne h2, upd_same], hd, k dx _ (fun b o e => ?_) hd upd_same⟩
  have n1 := ne_of_none e ha
  have n2 := ne_of_none e hd
  rw [upd_ne n2, del_ne n1, upd_ne n1, upd_ne n2, upd_ne n1]
  exact e
theorem tooM_fin (B : TooM K mg) {H : Hp} {a : Addr} {v u : V} {Q : XK} (ha : H a = Option.none) (k : ∀ (d : Addr) (H2 : Hp), Same H H2 → H d = Option.none → H2 d = some (.xd [("most", u), ("what", v)]) → Q (.ref B.C) (some d) H2) :
    spInitM K (.ref a :: ([v, u] ++ [])) (upd H a (exo a B.C Option.none)) (fun v' H2 => v' = .non ∧ ∃ (d : Addr) (fs : List (Str × V)), H2 a = some (exo a B.C (some d)) ∧ H2 d = some (exd d fs) ∧ H d = Option.none ∧ Q (.ref B.C) (some d) (upd (del H2 a) d (.xd fs))) (fun _ _ _ => False) := by
  refine ⟨a, B.C, v, u, rfl, B.oex, B.no1, B.no2, upd_same, fun dx h1 h2 => ?_⟩
  have hd : H dx = Option.none := by rw [upd_ne h2] at h1; exact h1
  refine ⟨rfl, dx, _, upd_same, by rw [upd_ne h2, upd_same], hd, k dx _ (fun b o e => ?_) hd upd_same⟩
  have n1 := ne_of_none e ha
  have n2 := ne_of_none e hd
  rw [upd_ne n2, del_ne n1, upd_ne n1, upd_ne n2, upd_ne n1]
  exact e

/-- e.f, a property of the object's class, whichever that is -/
def tPropW (K : PySem.W.Frag) (f : Str) (p g : Addr) (sp : Sp) (dvs : List V) (E : XK) (ta : TE) : TE := fun σ H Q => ta σ H fun x H1 => ∃ a C dx fs, x = .ref a ∧ H1 a = some (.ins C dx fs) ∧ Cls K C ∧ PropOf K C f p g ∧ sp (.ref a :: dvs) H1 Q E
theorem pe_propW {X : Cx} {CX : CXT} {k : Nat} {g : Addr} {f : Str} {fd : FuncData} {ps : List Str} {sp : Sp} {dvs : List V} {ds : List Value} {E : XK} {e : Expr} {pos : Pos} {ta : TE} (he : PE X e ta) (p : Addr) (F : FnOk X.prog X.w X.K X.mg X.base CX k g fd ps sp) (hr : Room (k + 1) X.A) (hb : Binds X.K fd ps ds) (hd : Vals dvs ds) (hx : Passes CX X.nox E)
    (hab : attributeBase e f X.env (eval e X.env) = eval e X.env) : PE X (.Attribute e f pos) (tPropW X.K f p g sp dvs E ta) := by
  refine ⟨fun pins s σ H Q I h => ?_⟩
  refine attr_of hab (thn (he.run pins s σ H _ I h) fun u s1 ⟨x, H1, I1, rx, a, C, dx, fs, ex, ea, c, hp, q⟩ => ?_)
  subst ex
  obtain rfl : u = Value.ref a := rx
  exact getprop_ok I1 ea c hp F hr hb hd hx q

/-! ### classes: made by a def with a star, static methods -/
/-- def f(p1, p2, *v) of the text -/
theorem star2_ok {x qual p1 p2 pv : Str} {k : Nat} {st : Stmt} {f : Addr} {fd : FuncData} {N : List Str} {sp : V → V → List V → Hp → VK → XK → Prop}
    (F : Fun K x qual st f fd) (S : FnScope N [p1, p2, pv] (defScope st))
    (hb : ∀ (kV doc pm : Value) (an : Option Addr) (cdv ct : Value) (a b : Value) (rest : List Value), bindArgs (PySem.W.fnOf x qual (defArgs st) (defBody st) (defScope st) .none kV doc pm an cdv ct) ⟨a :: b :: rest, []⟩ = (newTuple rest >>= fun t => pure [(p1, a), (p2, b), (pv, t)]))
    (go : ∀ (cdv : Value) (A : Around) (outer : List Env) (s : Shared) (H : Hp) (a b : V) (vs : List V) (p : Addr) (H0 : Hp) (Q : VK) (E : XK), Room k (A.deeper (envOfC qual (defScope st) s.heap.objs.size f cdv)) → sp a b vs H0 Q E → vs.length ≤ sizeLine → H0 p = Option.none → H = upd H0 p (.tup vs) →
      ∃ t, PSs (cxOf CX0 P w K mg base N qual (defScope st) f cdv A outer s H E).nox (defBody st) t ∧ t { nx := fun _ H1 => Q .non H1, rt := Q } (start N [a, b, V.ref p]) H) :
    FnR P w K mg base CX0 (k + 1) f (fun vs H Q E => ∃ a b rest, vs = a :: b :: rest ∧ rest.length ≤ sizeLine ∧ sp a b rest H Q E) := by
  obtain ⟨oc, od, kV, doc, pm, an, cdv, ct, osl, e, lk, hcd⟩ := F.ex
  subst e
  refine FnR.imp (fn_star (ps := [p1, p2]) (pv := pv) (CX := CX0) (sp := fun ws H Q E => ∃ (a b : V) (vs : List V) (p : Addr) (H0 : Hp), ws = [a, b, V.ref p] ∧ sp a b vs H0 Q E ∧ vs.length ≤ sizeLine ∧ H0 p = Option.none ∧ H = upd H0 p (.tup vs)) lk hcd S cxUp_none (fun us rest hl => ?_) fun A outer s H vs Q E hr h => ?_) fun vs H Q E h => ?_
  · match us, hl with
    | [a, b], _ =>
      show bindArgs _ { pos := a :: b :: rest, kw := [] } = _
      rw [hb]
      rfl
  · obtain ⟨a, b, ws, p, H0, rfl, hs, hl, hp, rfl⟩ := h
    obtain ⟨t, ht, hq⟩ := go cdv A outer s _ a b ws p H0 Q E hr hs hl hp rfl
    exact ⟨t, ht.nox, hq⟩
  · obtain ⟨a, b, rest, rfl, hl, hs⟩ := h
    exact ⟨[a, b], rest, rfl, rfl, hl, fun p hp => ⟨a, b, rest, p, H, rfl, hs, hl, hp, rfl⟩⟩
/-- C(e, ..), the init told of its arguments as they are passed -/
def tMkR (C : Addr) (sp : Sp) (E : XK) (t : TA) : TE := fun σ H Q => t σ H fun vs H1 => ∀ x dx, H1 x = Option.none → H1 dx = Option.none → dx ≠ x → sp (.ref x :: vs) (upd (upd H1 dx (.own x)) x (.ins C dx [])) (fun v H2 => v = .non ∧ Q (.ref x) H2) E
section
variable {X : Cx} {CX : CXT} {k : Nat} {f C p g : Addr} {sp : Sp} {E : XK} {x m : Str} {e o : Expr} {es : List Expr} {kws : List Keyword} {ta : TE} {t tk : TA} {pos apos q : Pos} {mc : Value}
theorem run_mkR {pins : List (Addr × Obj)} {σ : L2.St} {H : Hp} {s : Shared} {Q : VK} {us : List Value} {vs : List V} (M : Mk X.K C f) (F : FnR X.prog X.w X.K X.mg X.base CX k f sp) (hr : Room (k + 1) X.A) (hx : Passes CX X E) (I : Inv X pins σ H s) (r : Vals vs us)
    (h : ∀ x dx, H x = Option.none → H dx = Option.none → dx ≠ x → sp (.ref x :: vs) (upd (upd H dx (.own x)) x (.ins C dx [])) (fun v H2 => v = .non ∧ Q (.ref x) H2) E) : wpAny (model X.prog X.w) X.A (call (.ref C) us) (EP X pins σ Q) X.xe s := by
  have hq := h (s.heap.objs.size + 1) s.heap.objs.size (I.hok.fresh (Nat.le_succ _)) (I.hok.fresh (Nat.le_refl _)) (Nat.ne_of_lt (Nat.lt_succ_self _))
  have I2 := Inv.made (C := C) I
  have r1 : Vals (V.ref (s.heap.objs.size + 1) :: vs) (Value.ref (s.heap.objs.size + 1) :: us) := .cons rfl r
  refine wpAny_call (make_map (f := f) I.kIn M.makes M.init (beq_iff_eq.mp M.fn) (codeAny_mono (F _ X.stack _ _ (Value.ref (s.heap.objs.size + 1) :: us) _ _ E (hr.make C us []) (I2.env0.make C us []) r1 hq) fun r s2 hz => ?_))
  match r, hz with
  | .error er, hz => exact hx pins σ _ _ er s2 I2 hz
  | .ok (.ret u), hz =>
    obtain ⟨v, H3, I3, rv, ev, q3⟩ := I2.after hz
    subst ev
    exact ⟨rv, ⟨V.ref (s.heap.objs.size + 1), H3, I3, rfl, q3⟩⟩
theorem pe_mkR (M : Mk X.K C f) (F : FnR X.prog X.w X.K X.mg X.base CX k f sp) (hr : Room (k + 1) X.A) (hx : Passes CX X E) (hg : Gl X x) (hm : X.mg x = some (.ref C)) (ha : PA X (e :: es) t)
    (hdb : (x == ("__debug__" : Str)) = false := by decide) (he : starEach (e :: es) X.env = (false, eval e X.env) :: starEach es X.env := by rfl) (hpl : (backTo pos (starEach es X.env)).any (·.1) = false := by rfl) : PE X (.Call (.Name x q) (e :: es) [] pos) (tMkR C sp E t) := by
  refine ⟨fun pins s σ H Q I h => wpAny_Call_Name_kw (ld_glob I hg hm ?_ hdb)⟩
  refine PySem.W.callWith_K (h₀ := X.base) I.ok.mod.kin M.kp (thn (ha.run pos pins s σ H _ I h) fun us s1 ⟨vs, H1, I1, r, q⟩ => ⟨I1.kIn, ?_⟩) he hpl
  exact run_mkR M F hr hx I1 r q
/-- C.m is a static method: its record at p, its def at g -/
structure CStat (K : PySem.W.Frag) (C : Addr) (mc : Value) (m : Str) (p g : Addr) : Prop where
  at_ : PySem.W.findCls K (.ref C) mc m = some (.get (.builtin "staticmethod.__get__") (.ref p) .none (.ref C))
  rc : ∃ rest, PySem.W.recIn K p "staticmethod" = some (.ref g :: rest)
  kp : PySem.W.keepIn K (.ref g) = true
theorem getmethst_ok {pins : List (Addr × Obj)} {σ : L2.St} {H : Hp} {s : Shared} {A : Around} {E : Value → Shared → Prop} {pl : Sem Bool} {Q : Value × List Value → Shared → Prop} (I : Inv X pins σ H s) (r : ClX.CRead X.K C mc) (k : CStat X.K C mc m p g)
    (h : ∀ s', Inv X pins σ H s' → Q (.ref g, []) s') : wpAny (model X.prog X.w) A (getMethod (.ref C) m pl) Q E s := by
  obtain ⟨rest, hp⟩ := k.rc
  refine PySem.W.method_cls I.kIn r.ga (PySem.W.cls_bind I.kIn r.rd k.at_ ?_)
  exact wpAny_call (PySem.W.sm_get (s := { s with toks := s.toks + 1 }) I.kIn hp (PySem.W.handed_on rfl (h _ (I.tok _))))
/-- C.m(e, ..) -/
def tStat (C : Addr) (sp : Sp) (E : XK) (ta : TE) (t : TA) : TE := fun σ H Q => ta σ H fun x H1 => x = .ref C ∧ t σ H1 fun vs H2 => sp vs H2 Q E
theorem pe_stat {pl : Sem Bool} (he : PE X o ta) (r : ClX.CRead X.K C mc) (c : CStat X.K C mc m p g) (F : FnR X.prog X.w X.K X.mg X.base CX k g sp) (hr : Room k X.A) (hx : Passes CX X E) (ha : PA X (e :: es) t)
    (hst : starEach (e :: es) X.env = (false, eval e X.env) :: starEach es X.env := by rfl) (hpl : (backTo pos (starEach es X.env)).any (·.1) = false := by rfl)
    (ht : eval (.Call (.Attribute o m apos) (e :: es) [] pos) X.env = (do
      let ov ← eval o X.env
      standAt apos.atName
      let (f, first) ← holding [ov] (getMethod ov m pl)
      callWith pos f first (backTo pos (starEach (e :: es) X.env)) (backToKw pos (keywordEach [] X.env))) := by rfl) :
    PE X (.Call (.Attribute o m apos) (e :: es) [] pos) (tStat C sp E ta t) := by
  refine ⟨fun pins s σ H Q I h => PySem.W.methodCall_KW (pl := pl) (thn (he.run pins s σ H _ I h) fun u s1 ⟨x, H1, I1, rx, ex, q⟩ => ?_) ht⟩
  subst ex
  obtain rfl : u = Value.ref C := rx
  refine getmethst_ok I1 r c fun s2 I2 => ?_
  refine PySem.W.callWith_K (h₀ := X.base) I.ok.mod.kin c.kp (thn (ha.run pos pins s2 σ H1 _ I2 q) fun us s3 ⟨vs, H2, I3, rv, q2⟩ => ⟨I3.kIn, ?_⟩) hst hpl
  exact wpAny_call (run_fnR F hr hx I3 rv q2)
theorem pe_stat0 {pl : Sem Bool} (he : PE X o ta) (r : ClX.CRead X.K C mc) (c : CStat X.K C mc m p g) (F : FnR X.prog X.w X.K X.mg X.base CX k g sp) (hr : Room k X.A) (hx : Passes CX X E)
    (ht : eval (.Call (.Attribute o m apos) [] [] pos) X.env = (do
      let ov ← eval o X.env
      standAt apos.atName
      let (f, first) ← holding [ov] (getMethod ov m pl)
      callWith pos f first (backTo pos (starEach [] X.env)) (backToKw pos (keywordEach [] X.env))) := by rfl) :
    PE X (.Call (.Attribute o m apos) [] [] pos) (tStat C sp E ta tNil) := by
  refine ⟨fun pins s σ H Q I h => PySem.W.methodCall_KW (pl := pl) (thn (he.run pins s σ H _ I h) fun u s1 ⟨x, H1, I1, rx, ex, q⟩ => ?_) ht⟩
  subst ex
  obtain rfl : u = Value.ref C := rx
  refine getmethst_ok I1 r c fun s2 I2 => ?_
  exact PySem.W.callWith_K0 I2.kIn c.kp (wpAny_call (run_fnR (us := []) F hr hx I2 .nil q))
/-- C.m(k = v, ..) -/
theorem pe_statK {pl : Sem Bool} {fd : FuncData} {ps ks : List Str} {gu : List Value → List Value → List Value} {gV : List V → List V → List V} (he : PE X o ta) (r : ClX.CRead X.K C mc) (c : CStat X.K C mc m p g) (F : FnOk X.prog X.w X.K X.mg X.base CX k g fd ps sp) (hr : Room k X.A)
    (hb : KBinds X.K fd ps ks gu gV) (hx : Passes CX X E) (hkw : PK X kws tk) (hall : (backToKw pos (keywordEach kws X.env)).all (·.1.isSome) = true := by rfl) (hks : (backToKw pos (keywordEach kws X.env)).filterMap (·.1) = ks := by rfl)
    (hpl : ((backTo pos (starEach [] X.env)).any (·.1) || (backToKw pos (keywordEach kws X.env)).any (·.1.isNone)) = false := by rfl)
    (ht : eval (.Call (.Attribute o m apos) [] kws pos) X.env = (do
      let ov ← eval o X.env
      standAt apos.atName
      let (f, first) ← holding [ov] (getMethod ov m pl)
      callWith pos f first (backTo pos (starEach [] X.env)) (backToKw pos (keywordEach kws X.env))) := by rfl) :
    PE X (.Call (.Attribute o m apos) [] kws pos) (tStat C (fun zs => sp (gV [] zs)) E ta tk) := by
  refine ⟨fun pins s σ H Q I h => PySem.W.methodCall_KW (pl := pl) (thn (he.run pins s σ H _ I h) fun u s1 ⟨x, H1, I1, rx, ex, q⟩ => ?_) ht⟩
  subst ex
  obtain rfl : u = Value.ref C := rx
  refine getmethst_ok I1 r c fun s2 I2 => ?_
  refine PySem.W.callWith_KW0 (h₀ := X.base) I.ok.mod.kin c.kp hall (thn (hkw.run pos pins s2 σ H1 _ I2 q) fun ws s3 ⟨zs, H2, I3, rz, q2⟩ => ⟨I3.kIn, ?_⟩) hpl
  rw [hks]
  exact run_fnk (us := []) F hr hb hx I3 .nil rz q2
end

/-! ### what an own class says of in, not in, ==, len, truth -/
section
variable {X : Cx} {CX : CXT} {k : Nat} {C f : Addr} {fd : FuncData} {ps : List Str} {sp : Sp} {E : XK}
/-- an instance as the walk knows it -/
theorem ins_at {pins : List (Addr × Obj)} {σ : L2.St} {H : Hp} {s : Shared} {a dx : Addr} {fs : List (Str × V)} (I : Inv X pins σ H s) (e : H a = some (.ins C dx fs)) : ∃ (o : Obj) (od : Option Obj), PySem.W.InstAt s.heap a o C od := by
  obtain ⟨mA, O, _, _, _, _⟩ := ins_get I.hok e
  obtain ⟨od, J, _⟩ := O.look
  exact ⟨_, _, J⟩
/-- x in a: the own __contains__ answers a truth -/
def rInO (C : Addr) (sp : Sp) (E : XK) : R2 := fun x y H Q => ∃ (a dx : Addr) (fs : List (Str × V)), y = .ref a ∧ H a = some (.ins C dx fs) ∧ sp [.ref a, x] H (fun v H' => ∃ b, v = .bl b ∧ Q (.bl b) H') E
def rNotInO (C : Addr) (sp : Sp) (E : XK) : R2 := fun x y H Q => ∃ (a dx : Addr) (fs : List (Str × V)), y = .ref a ∧ H a = some (.ins C dx fs) ∧ sp [.ref a, x] H (fun v H' => ∃ b, v = .bl b ∧ Q (.bl (!b)) H') E
theorem op_inO (F : FnOk X.prog X.w X.K X.mg X.base CX k f fd ps sp) (hr : Room k X.A) (hb : Binds X.K fd ps []) (hx : Passes CX X E) (hs : PySem.W.findIn X.K (.ref C) "__contains__" = some (some (.ref f))) (hf : PySem.W.isFn X.K (.ref f) = true) : OpR X (compareOp .In) (rInO C sp E) := by
  intro pins s σ H x y v u Q I rx ry h
  obtain ⟨a, dx, fs, rfl, ha, q⟩ := h
  obtain rfl : u = Value.ref a := ry
  obtain ⟨o, od, J⟩ := ins_at I ha
  obtain ⟨m, hF⟩ := I.fr
  refine PySem.W.in_K hF I.ok.mod.kin J hs hf (thn (run_fn (us := [.ref a, v]) (vs := [.ref a, x]) F hr hb .nil hx I (.cons rfl (.cons rx .nil)) q) fun r s1 z => ?_)
  obtain ⟨w, H1, I1, rw1, b, rfl, q1⟩ := z
  cases rw1
  exact wpAny_truthy_bool ⟨.bl b, H1, I1, rfl, q1⟩
theorem op_notInO (F : FnOk X.prog X.w X.K X.mg X.base CX k f fd ps sp) (hr : Room k X.A) (hb : Binds X.K fd ps []) (hx : Passes CX X E) (hs : PySem.W.findIn X.K (.ref C) "__contains__" = some (some (.ref f))) (hf : PySem.W.isFn X.K (.ref f) = true) : OpR X (compareOp .NotIn) (rNotInO C sp E) := by
  intro pins s σ H x y v u Q I rx ry h
  obtain ⟨a, dx, fs, rfl, ha, q⟩ := h
  obtain rfl : u = Value.ref a := ry
  obtain ⟨o, od, J⟩ := ins_at I ha
  obtain ⟨m, hF⟩ := I.fr
  refine PySem.W.notIn_K hF I.ok.mod.kin J hs hf (thn (run_fn (us := [.ref a, v]) (vs := [.ref a, x]) F hr hb .nil hx I (.cons rfl (.cons rx .nil)) q) fun r s1 z => ?_)
  obtain ⟨w, H1, I1, rw1, b, rfl, q1⟩ := z
  cases rw1
  exact wpAny_truthy_bool ⟨.bl (!b), H1, I1, rfl, q1⟩
/-- a == b, both instances of the class -/
def rEqO (C : Addr) (sp : Sp) (E : XK) : R2 := fun x y H Q => ∃ (a b dx dy : Addr) (fs gs : List (Str × V)), x = .ref a ∧ y = .ref b ∧ H a = some (.ins C dx fs) ∧ H b = some (.ins C dy gs) ∧ sp [.ref a, .ref b] H (fun v H' => ∃ b, v = .bl b ∧ Q (.bl b) H') E
theorem op_eqO (F : FnOk X.prog X.w X.K X.mg X.base CX k f fd ps sp) (hr : Room k X.A) (hb : Binds X.K fd ps []) (hx : Passes CX X E) (hs : PySem.W.findIn X.K (.ref C) "__eq__" = some (some (.ref f))) (hf : PySem.W.isFn X.K (.ref f) = true) : OpR X (compareOp .Eq) (rEqO C sp E) := by
  intro pins s σ H x y v u Q I rx ry h
  obtain ⟨a, b, dx, dy, fs, gs, rfl, rfl, ha, hb2, q⟩ := h
  obtain rfl : v = Value.ref a := rx
  obtain rfl : u = Value.ref b := ry
  obtain ⟨o, od, J⟩ := ins_at I ha
  obtain ⟨o2, od2, J2⟩ := ins_at I hb2
  obtain ⟨m, hF⟩ := I.fr
  show wpAny (model X.prog X.w) X.A (richCompare .Eq (.ref a) (.ref b)) (EP X pins σ Q) X.xe s
  refine PySem.W.cmp_K (op := .Eq) (tb := .ref C) hr.units0 hF I.ok.mod.kin J J2.type (by simp [PySem.W.notFirst]) hs hf (thn (run_fn (us := [.ref a, .ref b]) (vs := [.ref a, .ref b]) F hr hb .nil hx I (.cons rfl (.cons rfl .nil)) q) fun r s1 z => ?_)
  obtain ⟨w, H1, I1, rw1, c, rfl, q1⟩ := z
  cases rw1
  exact ⟨.bl c, H1, I1, rfl, q1⟩
/-- len(a) -/
def rLenO (C : Addr) (sp : Sp) (E : XK) : List V → Hp → VK → Prop := fun xs H Q => ∃ (a dx : Addr) (fs : List (Str × V)), xs = [.ref a] ∧ H a = some (.ins C dx fs) ∧ sp [.ref a] H (fun v H' => ∃ n : Int, v = .int n ∧ 0 ≤ n ∧ n < 2 ^ 63 ∧ Q (.int n) H') E
end
/-! ### len, !=, truth of an own class -/
section
variable {prog : Program} {w : World} {A : Around} {E : Value → Shared → Prop} {s : Shared} {K : PySem.W.Frag} {x C L f : Addr} {h₀ : Heap} {m : Str → Option Value} {ox : Obj} {od : Option Obj} {b tb : Value}
theorem neO_entry {Q : Fin → Shared → Prop} (hu : A.units < cLine) (X : K.In s.heap) (I : PySem.W.InstAt s.heap x ox C od) (hs : PySem.W.findIn K (.ref C) "__eq__" = some (some (.ref f))) (hf : PySem.W.isFn K (.ref f) = true)
    (hcall : wpAny (model prog w) A (call (.ref f) [.ref x, b]) (fun v s' => ∃ c, v = .bool c ∧ Q (.done (.ret (.bool (!c)))) s') E s) :
    wpAny (model prog w) A (Builtin.«object.__ne__» ⟨[.ref x, b], []⟩) Q E s := by
  unfold Builtin.«object.__ne__»
  repeat (first
    | with_reducible refine wpAny_cRoomFor hu ?_
    | (refine wpAny_bind (m := callSpecialIfBound? (.ref x) (Str.ofString "__eq__") [b])
        (PySem.W.ifBound_K X I hs hf (wpAny_mono hcall (fun r s' hr => by
          obtain ⟨c, rfl, hq⟩ := hr
          repeat (first | exact hq | exact wpAny_pure hq | exact wpAny_truthy_bool hq | (refine wpAny_bind (m := truthy (.bool _)) (wpAny_truthy_bool ?_)) | wp_step)) fun _ _ e => e)))
    | wp_step)
theorem ifBound_objNe {M : Model} {args : List Value} {Q : Option Value → Shared → Prop} (X : K.In s.heap) (I : PySem.W.InstAt s.heap x ox C od) (hs : PySem.W.findIn K (.ref C) "__ne__" = some (some (.builtin "object.__ne__")))
    (h : wpAny M A (call (.builtin "object.__ne__") (.ref x :: args)) (fun v => Q (some v)) E s) : wpAny M A (callSpecialIfBound? (.ref x) "__ne__" args) Q E s := by
  simp only [callSpecialIfBound?, bindSpecialIfBound?]
  refine wpAny_holding (wpAny_bind (wpAny_bind (wpAny_bind (I.type.here ((PySem.W.looks_findIn X hs).here ?_)))))
  refine wpAny_bind (wpAny_askSetting (wpAny_ite ?_))
  have fin : wpAny M A (call (.builtin "object.__ne__") ([.ref x] ++ args) >>= fun v => pure (some v)) Q E s := wpAny_bind (wpAny_mono h (fun v s' h' => wpAny_pure h') fun _ _ h' => h')
  split
  · exact wpAny_bind (wpAny_of_eq (F.cmp_object.ne.bind _) (wpAny_pure (by exact fin)))
  · exact wpAny_tryCatch (wpAny_bind (wpAny_of_eq (F.cmp_object.ne.bind _) (wpAny_pure (by exact fin))))
theorem ne_own {Q : Value → Shared → Prop} (hu : A.units + 1 < cLine) (F : PyProof.Rows.Fr h₀ L s.heap m) (X₀ : K.In h₀) (I : PySem.W.InstAt s.heap x ox C od) (hb : PySem.W.Looks (model prog w) s.heap (typeOf b) tb) (hn : PySem.W.notFirst K C tb = true)
    (hm : PySem.W.mroIn K C (.type "object") = some true) (he : PySem.W.findIn K (.ref C) "__ne__" = some (some (.builtin "object.__ne__")))
    (hs : PySem.W.findIn K (.ref C) "__eq__" = some (some (.ref f))) (hf : PySem.W.isFn K (.ref f) = true)
    (h : wpAny (model prog w) A.in1 (call (.ref f) [.ref x, b]) (fun v s' => ∃ c, v = .bool c ∧ Q (.bool (!c)) s') E s) : wpAny (model prog w) A (richCompare .NotEq (.ref x) b) Q E s := by
  have X := X₀.keeps F.keep
  have one : wpAny (model prog w) A (tryCompare (.ref x) (cmpInfo .NotEq).2.1 b) (fun r s' => ∃ v, r = some v ∧ Q v s') E s := by
    unfold tryCompare
    refine wpAny_bind (ifBound_objNe X I he (wpAny_call (codeAny_call_builtin PySem.F.cmp_object.ne.plain PySem.F.cmpEntry_ne (PySem.W.check_slot PySem.F.cmpKind_ne PySem.F.cmpSplit_ne (I.type.andThen (PySem.W.looks_mroIn X hm)) (PySem.F.cmpArgs_ne _ _)
      (neO_entry (A := A.in1) hu X I hs hf (wpAny_mono h (fun v s' hv => ?_) fun _ _ e => e))))))
    obtain ⟨c, rfl, hq⟩ := hv
    exact ⟨c, rfl, wpAny_pure ⟨_, rfl, hq⟩⟩
  unfold richCompare
  simp only [oneThing_ref]
  refine wpAny_holding (wpAny_bind (wpAny_cRoomFor (Nat.lt_of_succ_lt hu) ?_))
  refine wpAny_bind (I.type.here (wpAny_bind (hb.here ?_)))
  split
  · rename_i q
    have e : PySem.W.subIn K tb (.ref C) = some false := by
      rcases Bool.or_eq_true_iff.mp hn with e | e
      · rw [beq_iff_eq.mp e] at q; simp at q
      · exact beq_iff_eq.mp e
    refine wpAny_bind ((PySem.W.looks_subIn X e).here ?_)
    simp only [Bool.false_eq_true, if_false]
    refine wpAny_bind (wpAny_mono one (fun r s' z => ?_) fun _ _ e => e)
    obtain ⟨v, rfl, hq⟩ := z
    exact wpAny_pure hq
  · refine wpAny_bind (wpAny_pure ?_)
    simp only [Bool.false_eq_true, if_false]
    refine wpAny_bind (wpAny_mono one (fun r s' z => ?_) fun _ _ e => e)
    obtain ⟨v, rfl, hq⟩ := z
    exact wpAny_pure hq
end
section
variable {X : Cx} {CX : CXT} {k : Nat} {C f : Addr} {fd : FuncData} {ps : List Str} {sp : Sp} {E : XK}
/-- the callee runs deeper -/
theorem run_fnA {A' : Around} {pins : List (Addr × Obj)} {σ : L2.St} {H : Hp} {s : Shared} {Q : VK} {us : List Value} {vs : List V} (F : FnOk X.prog X.w X.K X.mg X.base CX k f fd ps sp) (hr : Room k A') (hA : ∀ {s : Shared} {H : Hp}, Env0 X.prog X.w X.K X.mg X.base X.A X.stack s H → Env0 X.prog X.w X.K X.mg X.base A' X.stack s H) (hb : Binds X.K fd ps []) (hx : Passes CX X E)
    (I : Inv X pins σ H s) (r : Vals vs us) (h : sp vs H Q E) : wpAny (model X.prog X.w) A' (call (.ref f) us) (EP X pins σ Q) X.xe s := by
  have hl : (us ++ []).length = ps.length := by rw [List.append_nil, ← r.length]; exact F.len _ _ _ _ h
  have hb' := hb s us I.kIn hl
  rw [List.append_nil] at hb'
  refine wpAny_call (codeAny_mono (F.run A' X.stack s H ⟨us, []⟩ us vs Q E hr (hA I.env0) hb' r h) fun r s' hq => ?_)
  cases r with
  | error e => exact hx pins σ H s e s' I hq
  | ok fl =>
    cases fl with
    | ret u => exact I.after hq
    | next => exact False.elim hq
    | brk => exact False.elim hq
    | cont => exact False.elim hq
theorem run_fn1 {pins : List (Addr × Obj)} {σ : L2.St} {H : Hp} {s : Shared} {Q : VK} {us : List Value} {vs : List V} (F : FnOk X.prog X.w X.K X.mg X.base CX k f fd ps sp) (hr : Room (k + 1) X.A) (hb : Binds X.K fd ps []) (hx : Passes CX X E)
    (I : Inv X pins σ H s) (r : Vals vs us) (h : sp vs H Q E) : wpAny (model X.prog X.w) X.A.in1 (call (.ref f) us) (EP X pins σ Q) X.xe s := run_fnA F hr.in1 (fun e => e.in1) hb hx I r h
theorem call_lenO (F : FnOk X.prog X.w X.K X.mg X.base CX k f fd ps sp) (hr : Room (k + 1) X.A) (hb : Binds X.K fd ps []) (hx : Passes CX X E) (hs : PySem.W.findIn X.K (.ref C) "__len__" = some (some (.ref f))) (hf : PySem.W.isFn X.K (.ref f) = true) : CallR X (.builtin "len") (rLenO C sp E) := by
  intro pins s σ H xs us Q I r h
  obtain ⟨a, dx, fs, rfl, ha, q⟩ := h
  obtain ⟨u, rfl, ru⟩ := vals1 r
  obtain rfl : u = Value.ref a := ru
  obtain ⟨o, od, J⟩ := ins_at I ha
  obtain ⟨m, hF⟩ := I.fr
  refine PySem.W.len_K hF I.ok.mod.kin J hs hf (thn (run_fn1 (us := [.ref a]) (vs := [.ref a]) F hr hb hx I (.cons rfl .nil) q) fun v s1 z => ?_)
  obtain ⟨w', H1, I1, rw1, n, rfl, h0, h1, q1⟩ := z
  obtain ⟨t, rfl⟩ := rw1
  exact ⟨⟨h0, h1⟩, .int n, H1, I1.tok _, ⟨_, rfl⟩, q1⟩
/-- a != b, both instances of the class, whose __eq__ is its own -/
def rNeO (C : Addr) (sp : Sp) (E : XK) : R2 := fun x y H Q => ∃ (a b dx dy : Addr) (fs gs : List (Str × V)), x = .ref a ∧ y = .ref b ∧ H a = some (.ins C dx fs) ∧ H b = some (.ins C dy gs) ∧ sp [.ref a, .ref b] H (fun v H' => ∃ b, v = .bl b ∧ Q (.bl (!b)) H') E
theorem op_neO (F : FnOk X.prog X.w X.K X.mg X.base CX k f fd ps sp) (hr : Room (k + 1) X.A) (hb : Binds X.K fd ps []) (hx : Passes CX X E) (hm : PySem.W.mroIn X.K C (.type "object") = some true) (he : PySem.W.findIn X.K (.ref C) "__ne__" = some (some (.builtin "object.__ne__")))
    (hs : PySem.W.findIn X.K (.ref C) "__eq__" = some (some (.ref f))) (hf : PySem.W.isFn X.K (.ref f) = true) : OpR X (compareOp .NotEq) (rNeO C sp E) := by
  intro pins s σ H x y v u Q I rx ry h
  obtain ⟨a, b, dx, dy, fs, gs, rfl, rfl, ha, hb2, q⟩ := h
  obtain rfl : v = Value.ref a := rx
  obtain rfl : u = Value.ref b := ry
  obtain ⟨o, od, J⟩ := ins_at I ha
  obtain ⟨o2, od2, J2⟩ := ins_at I hb2
  obtain ⟨m, hF⟩ := I.fr
  show wpAny (model X.prog X.w) X.A (richCompare .NotEq (.ref a) (.ref b)) (EP X pins σ Q) X.xe s
  have hu := hr.units
  refine ne_own (tb := .ref C) (by omega) hF I.ok.mod.kin J J2.type (by simp [PySem.W.notFirst]) hm he hs hf (thn (run_fn1 (us := [.ref a, .ref b]) (vs := [.ref a, .ref b]) F hr hb hx I (.cons rfl (.cons rfl .nil)) q) fun r s1 z => ?_)
  obtain ⟨w, H1, I1, rw1, c, rfl, q1⟩ := z
  cases rw1
  exact ⟨c, rfl, .bl (!c), H1, I1, rfl, q1⟩
/-- the truth of an instance with an own __len__ and no __bool__ -/
def rTruO (C : Addr) (sp : Sp) (E : XK) : V → Hp → (Bool → Hp → Prop) → Prop := fun x H Q => ∃ (a dx : Addr) (fs : List (Str × V)), x = .ref a ∧ H a = some (.ins C dx fs) ∧ sp [.ref a] H (fun v H' => ∃ n : Int, v = .int n ∧ 0 ≤ n ∧ n < 2 ^ 63 ∧ Q (n != 0) H') E
theorem tru_own {A : Around} {pins : List (Addr × Obj)} {σ : L2.St} {H : Hp} {s : Shared} {R : Bool → Shared → Prop} {a dx : Addr} {fs : List (Str × V)} (I : Inv X pins σ H s) (ha : H a = some (.ins C dx fs))
    (hn : PySem.W.findIn X.K (.ref C) "__bool__" = some none) (hs : PySem.W.findIn X.K (.ref C) "__len__" = some (some (.ref f))) (hf : PySem.W.isFn X.K (.ref f) = true)
    (h : wpAny (model X.prog X.w) A.in1 (call (.ref f) [.ref a]) (fun v s' => ∃ n t, v = .int n t ∧ 0 ≤ n ∧ n < 2 ^ 63 ∧ R (n != 0) { s' with toks := s'.toks + 1 }) X.xe s) : wpAny (model X.prog X.w) A (truthy (.ref a)) R X.xe s := by
  obtain ⟨o, od, J⟩ := ins_at I ha
  obtain ⟨m, hF⟩ := I.fr
  have XI := I.kIn
  unfold truthy
  refine wpAny_bind (m := callSpecial? (.ref a) (Str.ofString "__bool__")) (wpAny_bind (wpAny_bind (J.type.here ((PySem.W.looks_findIn XI hn).here (wpAny_pure ?_)))))
  refine wpAny_bind (wpAny_bind (J.type.here ((PySem.W.looks_findIn XI hs).here ?_)))
  show wpAny _ _ (if (some (Value.ref f)).isNone = true then _ else _) _ _ _
  rw [if_neg (by simp)]
  refine wpAny_bind (m := runValue (.builtin "len" ⟨[.ref a], []⟩)) (wpAny_runValue (codeAny_builtin PySem.entry_len ?_))
  unfold Builtin.«len»
  refine wpAny_bind (m := oneArg "len" _) (wpAny_pure ?_)
  refine wpAny_bind (m := callSpecial? (.ref a) (Str.ofString "__len__")) (PySem.W.special_fn XI J hs (beq_iff_eq.mp hf) (wpAny_mono h (fun r s' hr => ?_) fun _ _ y => y))
  obtain ⟨n, t, rfl, h0, h1, hq⟩ := hr
  refine wpAny_bind (wpAny_holding (wpAny_pure ?_))
  refine wpAny_bind (wpAny_letGo ?_)
  show wpAny _ _ (if n < 0 then _ else _) _ _ _
  rw [if_neg (by omega)]
  show wpAny _ _ (if n ≥ 2 ^ 63 then _ else _) _ _ _
  rw [if_neg (by omega)]
  exact wpAny_bind (wpAny_mkInt (wpAny_pure (wpAny_pure hq)))
theorem tru_lenO (F : FnOk X.prog X.w X.K X.mg X.base CX k f fd ps sp) (hr : Room (k + 1) X.A) (hb : Binds X.K fd ps []) (hx : Passes CX X E) (hn : PySem.W.findIn X.K (.ref C) "__bool__" = some none) (hs : PySem.W.findIn X.K (.ref C) "__len__" = some (some (.ref f)))
    (hf : PySem.W.isFn X.K (.ref f) = true) : TruR X (rTruO C sp E) := by
  intro pins s σ H x v Q I rx h
  obtain ⟨a, dx, fs, rfl, ha, q⟩ := h
  obtain rfl : v = Value.ref a := rx
  refine tru_own I ha hn hs hf (thn (run_fn1 (us := [.ref a]) (vs := [.ref a]) F hr hb hx I (.cons rfl .nil) q) fun r s1 z => ?_)
  obtain ⟨w', H1, I1, rw1, n, rfl, h0, h1, q1⟩ := z
  obtain ⟨t, rfl⟩ := rw1
  exact ⟨n, t, rfl, h0, h1, H1, I1.tok _, q1⟩
end
section
variable {prog : Program} {w : World} {A : Around} {E : Value → Shared → Prop} {s : Shared} {a : Addr}
theorem bool_own {R : Value → Shared → Prop} (h : ∀ A', A' = A.in1.in1 → wpAny (model prog w) A' (truthy (.ref a)) (fun b s' => R (.bool b) s') E s) : wpAny (model prog w) A (call (.type "bool") [.ref a]) R E s := by
  refine callType_codes (Q₁ := fun obj s₁ => s₁.TypeIs obj "bool" ∧ R obj s₁) PySem.F.called_bool (PySem.F.typeCall_bool_1 _) PySem.F.entry_object_init ?_ fun obj s₁ h₁ => ?_
  · refine codeAny_of_tree ?_
    show wpAny _ A.in1.in1 (do checkBuiltinCall "bool.__new__" ⟨[.type "bool", .ref a], []⟩; again (.builtin "bool.__new__" ⟨[.type "bool", .ref a], []⟩)) _ _ s
    refine wpAny_bind (wpAny_of_eq (PySem.F.newCall_bool_1 _) (wpAny_pure ⟨plainId_quiet (by decide +kernel) _, codeAny_builtin PySem.F.entry_bool_new ?_⟩))
    rw [Around.under_plainId (by decide +kernel) _]
    have f1 := PySem.F.conv_sub_bool
    obtain ⟨hp, g, d, tk, os⟩ := s
    repeat (any_goals (first | assumption | (with_reducible refine wpAny_mono (h _ ?_) (fun b s' z => ?_) fun _ _ z => z) | wp_step))
    · rfl
    · exact ⟨rfl, z⟩
  · exact ⟨h₁.1, PySem.F.args_object_init_2 obj _, object_init_meets PySem.F.called_bool.init.lookup PySem.F.called_bool.made (by decide) prog w A.in1 _ s₁ ⟨h₁.1, rfl, h₁.2⟩⟩
end
section
variable {X : Cx} {CX : CXT} {k : Nat} {C f : Addr} {fd : FuncData} {ps : List Str} {sp : Sp} {E : XK}
/-- bool(x) of an instance with an own __len__ -/
def rBoolO (C : Addr) (sp : Sp) (E : XK) : List V → Hp → VK → Prop := fun xs H Q => ∃ (a dx : Addr) (fs : List (Str × V)), xs = [.ref a] ∧ H a = some (.ins C dx fs) ∧ sp [.ref a] H (fun v H' => ∃ n : Int, v = .int n ∧ 0 ≤ n ∧ n < 2 ^ 63 ∧ Q (.bl (n != 0)) H') E
theorem call_boolO (F : FnOk X.prog X.w X.K X.mg X.base CX k f fd ps sp) (hr : Room (k + 3) X.A) (hb : Binds X.K fd ps []) (hx : Passes CX X E) (hn : PySem.W.findIn X.K (.ref C) "__bool__" = some none) (hs : PySem.W.findIn X.K (.ref C) "__len__" = some (some (.ref f)))
    (hf : PySem.W.isFn X.K (.ref f) = true) : CallR X (.type "bool") (rBoolO C sp E) := by
  intro pins s σ H xs us Q I r h
  obtain ⟨a, dx, fs, rfl, ha, q⟩ := h
  obtain ⟨u, rfl, ru⟩ := vals1 r
  obtain rfl : u = Value.ref a := ru
  refine bool_own fun A' e => ?_
  subst e
  refine tru_own I ha hn hs hf (thn (run_fnA (us := [.ref a]) (vs := [.ref a]) F hr.in1.in1.in1 (fun e => e.in1.in1.in1) hb hx I (.cons rfl .nil) q) fun r s1 z => ?_)
  obtain ⟨w', H1, I1, rw1, n, rfl, h0, h1, q1⟩ := z
  obtain ⟨t, rfl⟩ := rw1
  exact ⟨n, t, rfl, h0, h1, .bl (n != 0), H1, I1.tok _, rfl, q1⟩
/-- not x, by a truth that is told -/
theorem pe_notT {r : V → Hp → (Bool → Hp → Prop) → Prop} {a : Expr} {ta : TE} {pos : Pos} (hc : TruR X r) (ha : PE X a ta) : PE X (.UnaryOp .Not a pos) (fun σ H Q => ta σ H fun x H1 => r x H1 fun b H2 => Q (.bl (!b)) H2) := by
  refine ⟨fun pins s σ H Q I h => ?_⟩
  refine UnaryOp_ (thn (ha.run pins s σ H _ I h) fun v s1 ⟨x, H1, I1, r1, q1⟩ => ?_)
  exact not_of (thn (hc pins s1 σ H1 x v _ I1 r1 q1) fun b s2 ⟨H2, I2, q2⟩ => ⟨.bl (!b), H2, I2, rfl, q2⟩)
end
/-! ### iteration over an instance whose own __iter__ hands on the iterator of a tuple -/
/-- at it an iterator over the tuple at l, at its begin -/
def ItTO (l it : Addr) : HO := .ext fun h => h.IsTupleIter it l 0
section
variable {X : Cx}
/-- iter(t), t a tuple -/
def rIterT (K : PySem.W.Frag) (n : Nat) : List V → Hp → VK → Prop := fun xs H Q => ∃ (l : Addr) (zs : List V), xs = [.ref l] ∧ SqT K H l zs ∧ ∀ it, H it = Option.none → n ≤ it → Q (.ref it) (upd H it (ItTO l it))
theorem call_iterT : CallR X (.builtin "iter") (rIterT X.K X.s_0.heap.objs.size) := by
  intro pins s σ H xs us Q I r h
  obtain ⟨l, zs, rfl, hq, q⟩ := h
  obtain rfl := Vals.ref1 r
  obtain ⟨its, rv, pl, hz⟩ := I.tuple hq
  refine Calls.call_function_entry (by decide +kernel) (by decide +kernel) PySem.W.kdk_entry_iter (PySem.W.kdk_args_iter _) ?_
  unfold Builtin.«iter»
  refine wpAny_bind (m := someArgs "iter" 1 2 _) (wpAny_of_eq (a := [Value.ref l]) (by first | rfl | kernel_rfl!) ?_)
  show wpAny _ _ (pyIter (.ref l) >>= _) _ _ _
  refine wpAny_bind (wpAny_pyIter_tuple pl ?_)
  have st : (s.heap.push { cls := .type "tuple_iterator", data := .fields #[.ref l, .int 0 0] }).IsTupleIter s.heap.objs.size l 0 := ⟨_, Heap.get?_push_size _ rfl, rfl, rfl⟩
  exact wpAny_pure ⟨_, rfl, .ref s.heap.objs.size, _, I.laid (t' := s.toks) (o := ItTO l s.heap.objs.size) (fun b u e => Heap.get?_push_of_some _ e) (Nat.le_refl _) ⟨st, ⟨_, Heap.get?_push_size _ rfl⟩, fun h1 h2 q k => q.at fun o e => k o e⟩, rfl, q _ (I.hok.fresh (Nat.le_refl _)) I.sz⟩
/-- a def that is told of the room's size at its call -/
def FnN (P : Program) (w : World) (K : PySem.W.Frag) (mg : Str → Option Value) (base : Heap) (CX : CXT) (k : Nat) (f : Addr) (sp : Nat → Sp) : Prop :=
  ∀ (A : Around) (outer : List Env) (s : Shared) (H : Hp) (us : List Value) (vs : List V) (Q : VK) (E : XK), Room k A → Env0 P w K mg base A outer s H → Vals vs us → sp s.heap.objs.size vs H Q E →
    codeAny (model P w) A (.call (.ref f) { pos := us, kw := [] }) (CR CX outer P w H s Q E) s
theorem FnN.mk0 {P : Program} {w : World} {K : PySem.W.Frag} {mg : Str → Option Value} {base : Heap} {k : Nat} {x qual : Str} {st : Stmt} {f : Addr} {fd : FuncData} {N ps : List Str} {sp : Nat → Sp}
    (F : Fun K x qual st f fd) (S : FnScope N ps (defScope st)) (B : Binds K fd ps []) (len : ∀ n vs H Q E, sp n vs H Q E → vs.length = ps.length)
    (go : ∀ (cdv : Value) (A : Around) (outer : List Env) (s : Shared) (H : Hp) (vs : List V) (Q : VK) (E : XK), Room k (A.deeper (envOfC qual (defScope st) s.heap.objs.size f cdv)) → sp s.heap.objs.size vs H Q E →
      ∃ t, PSs (cxOf CX0 P w K mg base N qual (defScope st) f cdv A outer s H E).nox (defBody st) t ∧ t { nx := fun _ H1 => Q .non H1, rt := Q } (start N vs) H) : FnN P w K mg base CX0 (k + 1) f sp := by
  obtain ⟨oc, od, kV, doc, pm, an, cdv, ct, osl, e, lk, hcd⟩ := F.ex
  subst e
  intro A outer s H us vs Q E hr e0 rv hs
  have hl := len _ _ _ _ _ hs
  have hu : (us ++ []).length = ps.length := by rw [List.append_nil, ← hl]; exact rv.length.symm
  have b := B s us (e0.mod.kin.keeps fun b o z => (e0.bs b o z).1) hu
  rw [List.append_nil] at b
  exact LamX.run_ofS lk hcd S hr e0 b rv hl fun hr1 => by
    obtain ⟨t, ht, q⟩ := go cdv A outer s H vs Q E hr1 hs
    exact ⟨t, ht.nox, q⟩
variable {CX : CXT} {k : Nat} {C f : Addr} {sp : Nat → Sp} {E : XK} {tg iter : Expr} {te : TE}
def iOwnT (K : PySem.W.Frag) (C : Addr) (sp : Nat → Sp) (E : XK) (te : TE) : TI := fun σ H R => te σ H fun x H1 => ∃ (a dx : Addr) (fs : List (Str × V)), x = .ref a ∧ H1 a = some (.ins C dx fs) ∧
  ∀ n, sp n [.ref a] H1 (fun v H2 => ∃ it l, v = .ref it ∧ n ≤ it ∧ H2 it = some (ItTO l it) ∧ R (Itt K l) (ItX.dropH H2 it)) E
theorem pi_ownT (he : PE X iter te) (F : FnN X.prog X.w X.K X.mg X.base CX k f sp) (hr : Room k X.A) (hx : Passes CX X E) (hs : PySem.W.findIn X.K (.ref C) "__iter__" = some (some (.ref f))) (hf : PySem.W.isFn X.K (.ref f) = true) : PI X tg iter (iOwnT X.K C sp E te) := by
  refine ⟨fun pins s σ H R I h => ?_⟩
  refine thn (he.run pins s σ H _ I h) fun u s1 ⟨x, H1, I1, rx, a, dx, fs, ex, ha, q⟩ => ?_
  subst ex
  obtain rfl : u = Value.ref a := rx
  obtain ⟨o, od, J⟩ := ins_at I1 ha
  obtain ⟨m, hF⟩ := I1.fr
  refine PySem.W.owit_iter hF I1.ok.mod.kin J hs hf (wpAny_call (codeAny_mono (F X.A X.stack s1 H1 [.ref a] [.ref a] _ E hr I1.env0 (.cons rfl .nil) (q _)) fun r s' hq => ?_))
  cases r with
  | error e => exact hx pins σ H1 s1 e s' I1 hq
  | ok fl =>
    cases fl with
    | next => exact False.elim hq
    | brk => exact False.elim hq
    | cont => exact False.elim hq
    | ret u =>
      obtain ⟨v, H2, I2, rv, it, l, ev, hn, hi, qR⟩ := I1.after hq
      subst ev
      obtain rfl : u = Value.ref it := rv
      have st : s'.heap.IsTupleIter it l 0 := (I2.hok it _ hi).1
      show PySem.W.OwitIt _ _ _ _ _ _
      unfold PySem.W.OwitIt specialOf
      refine wpAny_bind (wpAny_typeOf st.typeIs ?_)
      refine wpAny_of_eq PySem.F.slot_tuple_iterator_next.lookup ?_
      have hi' := hi
      unfold ItTO at hi'
      refine ⟨it, [it], _, _, ItX.dropH H2 it, rfl, ItX.inv_drop I2 hi', turn_tuple l it, st, fun b hb => ?_, qR⟩
      have e : b = it := by simpa using hb
      rw [e]
      exact ItX.inv_fp I2 hi (Nat.le_trans I1.sz hn)
theorem sqT_drop {K : PySem.W.Frag} {H : Hp} {a it : Addr} {xs : List V} (h : SqT K H a xs) (n : it ≠ a) : SqT K (ItX.dropH H it) a xs := by
  have e : ItX.dropH H it a = H a := ItX.dropH_ne (Ne.symm n)
  unfold SqT Rd at h ⊢
  simp only [e]
  exact h
end

/-- what the class says of such a sign with an int behind it -/
structure OwnBin (K : PySem.W.Frag) (C f : Addr) (op : Operator) : Prop where
  hc : PySem.W.selfFirst K C = true
  hs : PySem.W.findIn K (.ref C) (PySem.dunder op.info.2) = some (some (.ref f))
  hf : PySem.W.isFn K (.ref f) = true
  hr : PySem.W.findIn K (.ref C) (PySem.dunderR op.info.2) = some Option.none
  h1 : ∃ fo, PySem.W.findIn K (.type "int") (PySem.dunder op.info.2) = some fo
  h2 : ∃ ro, PySem.W.findIn K (.type "int") (PySem.dunderR op.info.2) = some ro
  hsub : PySem.W.subIn K (.type "int") (.ref C) = some false
/-- no class along the line has the name -/
def mroNone (K : PySem.W.Frag) (C : Addr) (nm : Str) : Prop := ∃ cd, PySem.W.clsIn K C = some cd ∧ ∀ c ∈ cd.mro, PySem.W.findIn K c nm = some Option.none

/-! ### a + i, a - i, a * i, a // i, -a of an instance whose method is its own -/
section
variable {X : Cx} {CX : CXT} {k : Nat} {C f : Addr} {fd : FuncData} {ps : List Str} {sp : Sp} {E : XK}
def rBinO (C : Addr) (sp : Sp) (E : XK) : R2 := fun x y H Q => ∃ (a dx : Addr) (fs : List (Str × V)) (i : Int), x = .ref a ∧ y = .int i ∧ H a = some (.ins C dx fs) ∧ sp [.ref a, .int i] H (fun v H' => ∃ b, v = .ref b ∧ Q (.ref b) H') E
theorem op_binO {op : Operator} (O : OwnBin X.K C f op) (F : FnOk X.prog X.w X.K X.mg X.base CX k f fd ps sp) (hr : Room k X.A) (hb : Binds X.K fd ps []) (hx : Passes CX X E) : OpR X (binaryOp op) (rBinO C sp E) := by
  intro pins s σ H x y v u Q I rx ry h
  obtain ⟨a, dx, fs, i, rfl, rfl, ha, q⟩ := h
  obtain rfl : v = Value.ref a := rx
  obtain ⟨t, rfl⟩ := ry
  obtain ⟨o, od, J⟩ := ins_at I ha
  obtain ⟨m, hF⟩ := I.fr
  obtain ⟨fo, h1⟩ := O.h1
  obtain ⟨ro, h2⟩ := O.h2
  refine PySem.W.ksp_binT (T := "int") hF I.ok.mod.kin J rfl O.hc O.hs O.hf O.hr (.inl rfl) h1 h2 O.hsub (thn (run_fn (us := [.ref a, .int i t]) (vs := [.ref a, .int i]) F hr hb .nil hx I (.cons rfl (.cons ⟨t, rfl⟩ .nil)) q) fun r s1 z => ?_)
  obtain ⟨w, H1, I1, rw1, b, rfl, q1⟩ := z
  cases rw1
  exact ⟨.ref b, H1, I1, rfl, q1⟩
def rNegO (C : Addr) (sp : Sp) (E : XK) : V → Hp → VK → Prop := fun x H Q => ∃ (a dx : Addr) (fs : List (Str × V)), x = .ref a ∧ H a = some (.ins C dx fs) ∧ sp [.ref a] H Q E
theorem un_negO (F : FnOk X.prog X.w X.K X.mg X.base CX k f fd ps sp) (hr : Room k X.A) (hb : Binds X.K fd ps []) (hx : Passes CX X E) (hs : PySem.W.findIn X.K (.ref C) "__neg__" = some (some (.ref f))) (hf : PySem.W.isFn X.K (.ref f) = true) : UnR X (unaryOp .USub) (rNegO C sp E) := by
  intro pins s σ H x v Q I rx h
  obtain ⟨a, dx, fs, rfl, ha, q⟩ := h
  obtain rfl : v = Value.ref a := rx
  obtain ⟨o, od, J⟩ := ins_at I ha
  obtain ⟨m, hF⟩ := I.fr
  exact PySem.W.ksp_neg hF I.ok.mod.kin J hs hf (run_fn (us := [.ref a]) (vs := [.ref a]) F hr hb .nil hx I (.cons rfl .nil) q)
/-- C(e, *es), C an own class -/
theorem pe_mkRS {e : Expr} {es : List Expr} {x : Str} {q pos : Pos} {t : TA} {sp : Sp} (M : Mk X.K C f) (F : FnR X.prog X.w X.K X.mg X.base CX k f sp) (hr : Room (k + 1) X.A) (hx : Passes CX X E) (hg : Gl X x) (hm : X.mg x = some (.ref C)) (ha : PA X (e :: es) t)
    (hdb : (x == ("__debug__" : Str)) = false := by decide) (he : starEach (e :: es) X.env = (false, eval e X.env) :: starEach es X.env := by rfl) (hst : (backTo pos (starEach es X.env)).any (·.1) = true := by rfl) : PE X (.Call (.Name x q) (e :: es) [] pos) (tMkR C sp E t) := by
  refine ⟨fun pins s σ H Q I h => wpAny_Call_Name_kw (ld_glob I hg hm ?_ hdb)⟩
  refine PySem.W.callWith_S2 (h₀ := X.base) I.ok.mod.kin M.kp (thn (ha.run pos pins s σ H _ I h) fun us s1 ⟨vs, H1, I1, r, q⟩ => ⟨I1.kIn, ?_⟩) he hst
  exact run_mkR M F hr hx I1 r q
end
/-- what is not reached -/
def tNo : TE := fun _ _ _ => False
theorem pe_no {X : Cx} {e : Expr} : PE X e tNo := ⟨fun _ _ _ _ _ _ h => h.elim⟩

/-! ### x op= i, x an instance without a method of its own for it -/
section
variable {prog : Program} {w : World} {M : Model} {A : Around} {E : Value → Shared → Prop} {s : Shared} {K : PySem.W.Frag} {x C L f : Addr} {h₀ : Heap} {m : Str → Option Value} {ox : Obj} {od : Option Obj} {nm T : String}
theorem fillsI0 {h : Heap} {add : Bool} (X : K.In h) (hm : mroNone K C (PySem.dunderI nm)) : PySem.W.Looks M h (fillsInplaceSlot (.ref C) nm add) false := by
  obtain ⟨cd, hc, hn⟩ := hm
  intro A Q E s k q
  have Lm : PySem.W.Looks M h (mroOf (.ref C)) cd.mro := (PySem.W.looks_clsIn X hc).andThen (f := fun cd => pure cd.mro) .now
  have Lm' := Lm.keeps k
  obtain ⟨hh, g, d, tt, os⟩ := s
  have X' : K.In hh := X.keeps k
  unfold fillsInplaceSlot
  refine wpAny_bind (Lm'.at ?_)
  clear Lm Lm'
  generalize cd.mro = l at hn
  induction l with
  | nil => exact wpAny_pure q
  | cons c r ih =>
    rw [List.anyM_cons]
    refine wpAny_bind (wpAny_bind ((PySem.W.looks_findIn X' (hn c (List.mem_cons_self ..))).at (wpAny_pure ?_)))
    exact ih fun c' hc' => hn c' (List.mem_cons_of_mem _ hc')
theorem bin1_own {nm' : String} {i : Int} {t : Tok} {fo ro : Option Value} {Q : Value → Shared → Prop} (F : PyProof.Rows.Fr h₀ L s.heap m) (X₀ : K.In h₀) (I : PySem.W.InstAt s.heap x ox C od) (hc : PySem.W.selfFirst K C = true)
    (hs : PySem.W.findIn K (.ref C) (PySem.dunder nm') = some (some (.ref f))) (hf : PySem.W.isFn K (.ref f) = true) (hr : PySem.W.findIn K (.ref C) (PySem.dunderR nm') = some Option.none)
    (h1 : PySem.W.findIn K (.type "int") (PySem.dunder nm') = some fo) (h2 : PySem.W.findIn K (.type "int") (PySem.dunderR nm') = some ro) (hsub : PySem.W.subIn K (.type "int") (.ref C) = some false)
    (h : wpAny (model prog w) A (call (.ref f) [.ref x, .int i t]) (PySem.W.CmpBack Q) E s) : wpAny (model prog w) A (binaryOp1 nm' (.ref x) (.int i t)) (fun r s' => ∃ v, r = some v ∧ Q v s') E s := by
  have X := X₀.keeps F.keep
  obtain ⟨cd, rest, hcd, hmr⟩ := PySem.W.ksp_first hc
  have one := PySem.W.ksp_try X I hs hf h
  obtain ⟨hh, g, d, tt, os⟩ := s
  have L1 : PySem.W.Looks (model prog w) hh (typeOf (.ref x)) (.ref C) := I.type
  have L2 : PySem.W.Looks (model prog w) hh (typeOf (.int i t)) (.type "int") := PySem.W.Looks.of_pure rfl
  have L3 : PySem.W.Looks (model prog w) hh (fillsNumberSlot (.ref C) nm') true := PySem.W.fills_K X hcd hmr hs
  have L4 : PySem.W.Looks (model prog w) hh (fillsNumberSlot (.type "int") nm') ((fo.isSome && !isSeqSlot fo) || (ro.isSome && !isSeqSlot ro)) := PySem.W.ksp_fillsT X h1 h2
  have L5 : PySem.W.Looks (model prog w) hh (isSubtype (.type "int") (.ref C)) false := PySem.W.looks_subIn X hsub
  have L6 : PySem.W.Looks (model prog w) hh (numberSlotInPython (.ref C) nm') true := PySem.W.ksp_inPy X hs hr (.inl rfl)
  have L7 : PySem.W.Looks (model prog w) hh (numberSlotInPython (.type "int") nm') false := PySem.W.Looks.of_pure rfl
  have L8 : PySem.W.Looks (model prog w) hh (typeLookup (.type "int") (PySem.dunderR nm')) ro := PySem.W.looks_findIn X h2
  generalize ((fo.isSome && !isSeqSlot fo) || (ro.isSome && !isSeqSlot ro)) = right at L4
  have hne : (Value.ref C == Value.type "int") = false := Bool.eq_false_iff.mpr fun q => by cases beq_iff_eq.mp q
  unfold binaryOp1
  refine wpAny_bind (L1.at (wpAny_bind (L2.at (wpAny_bind (L3.at ?_)))))
  simp only [hne, Bool.false_eq_true, if_false]
  cases right with
  | false =>
    ksp_lk
    refine wpAny_mono one (fun r s' hr' => ?_) fun _ _ e => e
    obtain ⟨v, rfl, hq⟩ := hr'
    ksp_lk
    exact ⟨v, rfl, hq⟩
  | true =>
    ksp_lk
    refine wpAny_mono one (fun r s' hr' => ?_) fun _ _ e => e
    obtain ⟨v, rfl, hq⟩ := hr'
    ksp_lk
    exact ⟨v, rfl, hq⟩
theorem inplace_own {op : Operator} {i : Int} {t : Tok} {fo ro : Option Value} {Q : Value → Shared → Prop} (F : PyProof.Rows.Fr h₀ L s.heap m) (X₀ : K.In h₀) (I : PySem.W.InstAt s.heap x ox C od) (hm : mroNone K C (PySem.dunderI op.info.2)) (hc : PySem.W.selfFirst K C = true)
    (hs : PySem.W.findIn K (.ref C) (PySem.dunder op.info.2) = some (some (.ref f))) (hf : PySem.W.isFn K (.ref f) = true) (hr : PySem.W.findIn K (.ref C) (PySem.dunderR op.info.2) = some Option.none)
    (h1 : PySem.W.findIn K (.type "int") (PySem.dunder op.info.2) = some fo) (h2 : PySem.W.findIn K (.type "int") (PySem.dunderR op.info.2) = some ro) (hsub : PySem.W.subIn K (.type "int") (.ref C) = some false)
    (h : wpAny (model prog w) A (call (.ref f) [.ref x, .int i t]) (PySem.W.CmpBack Q) E s) : wpAny (model prog w) A (inplaceOp op (.ref x) (.int i t)) Q E s := by
  have one := bin1_own F X₀ I hc hs hf hr h1 h2 hsub h
  have L0 : PySem.W.Looks (model prog w) s.heap (fillsInplaceSlot (.ref C) op.info.2 (op == .Add)) false := fillsI0 (X₀.keeps F.keep) hm
  unfold inplaceOp
  refine wpAny_holding ?_
  refine wpAny_bind (I.type.here ?_)
  refine wpAny_bind (L0.here ?_)
  rw [if_neg Bool.false_ne_true]
  refine wpAny_bind (m := binaryOp1 op.info.2 (.ref x) (.int i t)) (wpAny_mono one (fun r s' hr' => ?_) fun _ _ e => e)
  obtain ⟨v, rfl, hq⟩ := hr'
  exact wpAny_pure hq
end
section
variable {X : Cx} {CX : CXT} {k : Nat} {C f : Addr} {fd : FuncData} {ps : List Str} {sp : Sp} {E : XK}
theorem ip_own {op : Operator} (O : OwnBin X.K C f op) (hm : mroNone X.K C (PySem.dunderI op.info.2)) (F : FnOk X.prog X.w X.K X.mg X.base CX k f fd ps sp) (hr : Room k X.A) (hb : Binds X.K fd ps []) (hx : Passes CX X E) : PIp X op (rBinO C sp E) := by
  intro pins s σ H x y v u Q I rx ry h
  obtain ⟨a, dx, fs, i, rfl, rfl, ha, q⟩ := h
  obtain rfl : v = Value.ref a := rx
  obtain ⟨t, rfl⟩ := ry
  obtain ⟨o, od, J⟩ := ins_at I ha
  obtain ⟨m, hF⟩ := I.fr
  obtain ⟨fo, h1⟩ := O.h1
  obtain ⟨ro, h2⟩ := O.h2
  refine inplace_own hF I.ok.mod.kin J hm O.hc O.hs O.hf O.hr h1 h2 O.hsub (thn (run_fn (us := [.ref a, .int i t]) (vs := [.ref a, .int i]) F hr hb .nil hx I (.cons rfl (.cons ⟨t, rfl⟩ .nil)) q) fun r s1 z => ?_)
  obtain ⟨w, H1, I1, rw1, b, rfl, q1⟩ := z
  cases rw1
  exact ⟨.ref b, H1, I1, rfl, q1⟩
end

/-! ### str of an instance with an own __str__; == with what is no instance -/
section
variable {prog : Program} {w : World} {A : Around} {E : Value → Shared → Prop} {s : Shared} {a : Addr}
theorem str_own {R : Value → Shared → Prop} (h : ∀ A', A' = A.in1.in1 → wpAny (model prog w) A' (Builtin.Str.strOf (.ref a)) (fun b s' => (∃ x t, b = .str x t) ∧ R b s') E s) : wpAny (model prog w) A (call (.type "str") [.ref a]) R E s := by
  refine callType_codes (Q₁ := fun obj s₁ => s₁.TypeIs obj "str" ∧ R obj s₁) PySem.F.called_str (PySem.F.typeCall_str_1 _) PySem.F.entry_object_init ?_ fun obj s₁ h₁ => ?_
  · refine codeAny_of_tree ?_
    show wpAny _ A.in1.in1 (do checkBuiltinCall "str.__new__" ⟨[.type "str", .ref a], []⟩; again (.builtin "str.__new__" ⟨[.type "str", .ref a], []⟩)) _ _ s
    refine wpAny_bind (wpAny_of_eq (PySem.F.newCall_str_1 _) (wpAny_pure ⟨plainId_quiet (by decide +kernel) _, codeAny_builtin PySem.F.entry_str_new ?_⟩))
    rw [Around.under_plainId (by decide +kernel) _, str_new_tree]
    refine wpAny_bind (wpAny_pure ?_)
    refine wpAny_bind (wpAny_of_eq isSubtype_str_str ?_)
    refine wpAny_bind (wpAny_mono (h _ rfl) (fun b s' z => wpAny_pure ?_) fun _ _ e => e)
    obtain ⟨⟨x, t, rfl⟩, z⟩ := z
    exact ⟨typeIs_str _ _ _, z⟩
  · exact ⟨h₁.1, PySem.F.args_object_init_2 obj _, object_init_meets PySem.F.called_str.init.lookup PySem.F.called_str.made (by decide) prog w A.in1 _ s₁ ⟨h₁.1, rfl, h₁.2⟩⟩
theorem strOf_own {K : PySem.W.Frag} {x C f : Addr} {ox : Obj} {od : Option Obj} {Q : Value → Shared → Prop} (hu : A.units < cLine) (X : K.In s.heap) (I : PySem.W.InstAt s.heap x ox C od) (hs : PySem.W.findIn K (.ref C) "__str__" = some (some (.ref f))) (hf : PySem.W.isFn K (.ref f) = true)
    (h : wpAny (model prog w) A (call (.ref f) [.ref x]) (fun r s' => (∃ y t, r = .str y t) ∧ Q r s') E s) : wpAny (model prog w) A (Builtin.Str.strOf (.ref x)) Q E s := by
  unfold Builtin.Str.strOf
  repeat (first
    | with_reducible refine wpAny_cRoomFor hu ?_
    | (refine wpAny_bind (m := callSpecial? (.ref x) (Str.ofString "__str__")) (PySem.W.special_fn X I hs (beq_iff_eq.mp hf) (wpAny_mono h (fun r s' hr => by
        obtain ⟨⟨y, t, rfl⟩, hq⟩ := hr
        repeat (first | exact hq | exact wpAny_pure hq | wp_step)) fun _ _ e => e)))
    | wp_step)
end
section
variable {X : Cx} {CX : CXT} {k : Nat} {C f : Addr} {fd : FuncData} {ps : List Str} {sp : Sp} {E : XK}
def rStrO (C : Addr) (sp : Sp) (E : XK) : List V → Hp → VK → Prop := fun xs H Q => ∃ (a dx : Addr) (fs : List (Str × V)), xs = [.ref a] ∧ H a = some (.ins C dx fs) ∧ sp [.ref a] H (fun v H' => ∃ x, v = .str x ∧ Q (.str x) H') E
theorem call_strO (F : FnOk X.prog X.w X.K X.mg X.base CX k f fd ps sp) (hr : Room (k + 3) X.A) (hb : Binds X.K fd ps []) (hx : Passes CX X E) (hs : PySem.W.findIn X.K (.ref C) "__str__" = some (some (.ref f))) (hf : PySem.W.isFn X.K (.ref f) = true) : CallR X (.type "str") (rStrO C sp E) := by
  intro pins s σ H xs us Q I r h
  obtain ⟨a, dx, fs, rfl, ha, q⟩ := h
  obtain ⟨u, rfl, ru⟩ := vals1 r
  obtain rfl : u = Value.ref a := ru
  obtain ⟨o, od, J⟩ := ins_at I ha
  obtain ⟨m, hF⟩ := I.fr
  refine str_own fun A' e => ?_
  subst e
  refine strOf_own hr.in1.in1.units0 (I.ok.mod.kin.keeps hF.keep) J hs hf (thn (run_fnA (us := [.ref a]) (vs := [.ref a]) F (hr.in1.in1.mono (by omega)) (fun e => e.in1.in1) hb hx I (.cons rfl .nil) q) fun r s1 z => ?_)
  obtain ⟨w', H1, I1, rw1, x, rfl, q1⟩ := z
  obtain ⟨t, rfl⟩ := rw1
  exact ⟨⟨x, t, rfl⟩, ⟨x, t, rfl⟩, .str x, H1, I1, ⟨t, rfl⟩, q1⟩
/-- a == y, a an instance of the class, whose __eq__ is its own, y of a built-in kind -/
def rEqX (K : PySem.W.Frag) (C : Addr) (sp : Sp) (E : XK) : R2 := fun x y H Q => ∃ (a dx : Addr) (fs : List (Str × V)) (t : Value), x = .ref a ∧ H a = some (.ins C dx fs) ∧ TyX K H y t ∧ PySem.W.notFirst K C t = true ∧ sp [.ref a, y] H (fun v H' => ∃ b, v = .bl b ∧ Q (.bl b) H') E
theorem op_eqX (K : PySem.W.Frag) (hK : X.K = K) (F : FnOk X.prog X.w X.K X.mg X.base CX k f fd ps sp) (hr : Room k X.A) (hb : Binds X.K fd ps []) (hx : Passes CX X E) (hs : PySem.W.findIn X.K (.ref C) "__eq__" = some (some (.ref f))) (hf : PySem.W.isFn X.K (.ref f) = true) : OpR X (compareOp .Eq) (rEqX K C sp E) := by
  subst hK
  intro pins s σ H x y v u Q I rx ry h
  obtain ⟨a, dx, fs, t, rfl, ha, ty, nf, q⟩ := h
  obtain rfl : v = Value.ref a := rx
  obtain ⟨o, od, J⟩ := ins_at I ha
  obtain ⟨P, Z, hP, _⟩ := kit_of I ry ty
  obtain ⟨m, hF⟩ := I.fr
  show wpAny (model X.prog X.w) X.A (richCompare .Eq (.ref a) u) (EP X pins σ Q) X.xe s
  refine PySem.W.cmp_K (op := .Eq) (tb := t) hr.units0 hF I.ok.mod.kin J (Z.ty _ _ I.kIn hP) nf hs hf (thn (run_fn (us := [.ref a, u]) (vs := [.ref a, y]) F hr hb .nil hx I (.cons rfl (.cons ry .nil)) q) fun r s1 z => ?_)
  obtain ⟨w, H1, I1, rw1, c, rfl, q1⟩ := z
  cases rw1
  exact ⟨.bl c, H1, I1, rfl, q1⟩
end
/-- f'..' of two parts or more, under a name -/
def tJoin (ts : List TE) : TE := fun σ H Q => tJs ts Str.empty σ H fun out H1 => Q (.str out) H1
theorem pe_joinedT {X : Cx} {v1 v2 : Expr} {rest : List Expr} {ts : List TE} {pos : Pos} (h : PJ X (v1 :: v2 :: rest) ts) : PE X (.JoinedStr (v1 :: v2 :: rest) pos) (tJoin ts) := pe_joined h

/-! ### rules for instances whose class is one of several: methods, str, signs, != -/
section
variable {X : Cx} {CX : CXT} {k : Nat} {g : Addr} {fd : FuncData} {ps : List Str} {sp : Sp} {E : XK} {dvs : List V} {ds : List Value} {o e : Expr} {es : List Expr} {m : Str} {ta : TE} {t tk : TA} {apos pos : Pos}
/-- o.m(e, ..), m the def at g whichever class o is of -/
def tMethW (K : PySem.W.Frag) (m : Str) (g : Addr) (sp : Sp) (dvs : List V) (E : XK) (ta : TE) (t : TA) : TE := fun σ H Q => ta σ H fun x H1 => ∃ a C dx fs, x = .ref a ∧ H1 a = some (.ins C dx fs) ∧ Cls K C ∧ Meth K C m g ∧ fs.lookup m = Option.none ∧ t σ H1 fun vs H2 => sp (x :: (vs ++ dvs)) H2 Q E
theorem pe_methW {pl : Sem Bool} (K : PySem.W.Frag) (hK : X.K = K) (he : PE X o ta) (F : FnOk X.prog X.w X.K X.mg X.base CX k g fd ps sp) (hr : Room k X.A) (hb : Binds X.K fd ps ds) (hd : Vals dvs ds) (hx : Passes CX X E) (ha : PA X (e :: es) t)
    (hst : starEach (e :: es) X.env = (false, eval e X.env) :: starEach es X.env := by rfl) (hpl : (backTo pos (starEach es X.env)).any (·.1) = false := by rfl)
    (ht : eval (.Call (.Attribute o m apos) (e :: es) [] pos) X.env = (eval o X.env >>= fun ov => standAt apos.atName >>= fun _ => holding [ov] (getMethod ov m pl) >>= fun z => callWith pos z.1 z.2 (backTo pos (starEach (e :: es) X.env)) (backToKw pos (keywordEach [] X.env))) := by rfl) :
    PE X (.Call (.Attribute o m apos) (e :: es) [] pos) (tMethW K m g sp dvs E ta t) := by
  subst hK
  refine ⟨fun pins s σ H Q I h => PySem.W.methodCall_KW (pl := pl) (thn (he.run pins s σ H _ I h) fun u s1 hu => ?_) ht⟩
  obtain ⟨x, H1, I1, rx, a, C, dx, fs, rfl, ea, c, hm, l, q⟩ := hu
  obtain rfl : u = Value.ref a := rx
  refine getmeth_ok I1 ea c hm l (PySem.W.callWith_K (first := [.ref a]) (h₀ := X.base) I.ok.mod.kin hm.kp (thn (ha.run pos pins s1 σ H1 _ I1 q) fun us s2 z => ?_) hst hpl)
  obtain ⟨vs, H2, I2, r, q2⟩ := z
  exact ⟨I2.kIn, run_fn (us := .ref a :: us) (vs := .ref a :: vs) F hr hb hd hx I2 (.cons rfl r) q2⟩
/-- o.m(k = v, ..) -/
def tMethKW (K : PySem.W.Frag) (m : Str) (g : Addr) (sp : Sp) (gV : List V → List V → List V) (E : XK) (ta : TE) (tk : TA) : TE := fun σ H Q => ta σ H fun x H1 => ∃ a C dx fs, x = .ref a ∧ H1 a = some (.ins C dx fs) ∧ Cls K C ∧ Meth K C m g ∧ fs.lookup m = Option.none ∧ tk σ H1 fun zs H2 => sp (gV [x] zs) H2 Q E
theorem pe_methKW {ks : List Str} {kws : List Keyword} {gK : List Value → List Value → List Value} {gV : List V → List V → List V} {pl : Sem Bool} (K : PySem.W.Frag) (hK : X.K = K) (he : PE X o ta) (F : FnOk X.prog X.w X.K X.mg X.base CX k g fd ps sp) (hr : Room k X.A) (hb : KBinds X.K fd ps ks gK gV) (hx : Passes CX X E) (hkw : PK X kws tk)
    (hall : (backToKw pos (keywordEach kws X.env)).all (·.1.isSome) = true := by rfl) (hks : (backToKw pos (keywordEach kws X.env)).filterMap (·.1) = ks := by rfl) (hpl : ((backTo pos (starEach [] X.env)).any (·.1) || (backToKw pos (keywordEach kws X.env)).any (·.1.isNone)) = false := by rfl)
    (ht : eval (.Call (.Attribute o m apos) [] kws pos) X.env = (eval o X.env >>= fun ov => standAt apos.atName >>= fun _ => holding [ov] (getMethod ov m pl) >>= fun z => callWith pos z.1 z.2 (backTo pos (starEach [] X.env)) (backToKw pos (keywordEach kws X.env))) := by rfl) :
    PE X (.Call (.Attribute o m apos) [] kws pos) (tMethKW K m g sp gV E ta tk) := by
  subst hK
  refine ⟨fun pins s σ H Q I h => PySem.W.methodCall_KW (pl := pl) (thn (he.run pins s σ H _ I h) fun u s1 hu => ?_) ht⟩
  obtain ⟨x, H1, I1, rx, a, C, dx, fs, rfl, ea, c, hm, l, q⟩ := hu
  obtain rfl : u = Value.ref a := rx
  refine getmeth_ok I1 ea c hm l (PySem.W.callWith_KW0 (first := [.ref a]) (h₀ := X.base) I.ok.mod.kin hm.kp hall (thn (hkw.run pos pins s1 σ H1 _ I1 q) fun ws s2 z => ?_) hpl)
  obtain ⟨zs, H2, I2, rz, q2⟩ := z
  refine ⟨I2.kIn, ?_⟩
  rw [hks]
  exact run_fnk (us := [.ref a]) (vs := [.ref a]) F hr hb hx I2 (.cons rfl .nil) rz q2
/-- o.m(e, ..), m told of its arguments as they are passed -/
def tMethR (C : Addr) (m : Str) (sp : Sp) (E : XK) (ta : TE) (t : TA) : TE := fun σ H Q => ta σ H fun x H1 => ∃ a dx fs, x = .ref a ∧ H1 a = some (.ins C dx fs) ∧ fs.lookup m = Option.none ∧ t σ H1 fun vs H2 => sp (x :: vs) H2 Q E
theorem pe_methR {C : Addr} {pl : Sem Bool} (he : PE X o ta) (c : Cls X.K C) (hm : Meth X.K C m g) (F : FnR X.prog X.w X.K X.mg X.base CX k g sp) (hr : Room k X.A) (hx : Passes CX X E) (ha : PA X (e :: es) t)
    (hst : starEach (e :: es) X.env = (false, eval e X.env) :: starEach es X.env := by rfl) (hpl : (backTo pos (starEach es X.env)).any (·.1) = false := by rfl)
    (ht : eval (.Call (.Attribute o m apos) (e :: es) [] pos) X.env = (eval o X.env >>= fun ov => standAt apos.atName >>= fun _ => holding [ov] (getMethod ov m pl) >>= fun z => callWith pos z.1 z.2 (backTo pos (starEach (e :: es) X.env)) (backToKw pos (keywordEach [] X.env))) := by rfl) :
    PE X (.Call (.Attribute o m apos) (e :: es) [] pos) (tMethR C m sp E ta t) := by
  refine ⟨fun pins s σ H Q I h => PySem.W.methodCall_KW (pl := pl) (thn (he.run pins s σ H _ I h) fun u s1 hu => ?_) ht⟩
  obtain ⟨x, H1, I1, rx, a, dx, fs, rfl, ea, l, q⟩ := hu
  obtain rfl : u = Value.ref a := rx
  refine getmeth_ok I1 ea c hm l (PySem.W.callWith_K (first := [.ref a]) (h₀ := X.base) I.ok.mod.kin hm.kp (thn (ha.run pos pins s1 σ H1 _ I1 q) fun us s2 z => ?_) hst hpl)
  obtain ⟨vs, H2, I2, r, q2⟩ := z
  exact ⟨I2.kIn, wpAny_call (run_fnR (us := .ref a :: us) (vs := .ref a :: vs) F hr hx I2 (.cons rfl r) q2)⟩
/-- str(x), x an instance whose __str__ is the def at g -/
def rStrW (K : PySem.W.Frag) (g : Addr) (sp : Sp) (E : XK) : List V → Hp → VK → Prop := fun xs H Q => ∃ (a C dx : Addr) (fs : List (Str × V)), xs = [.ref a] ∧ H a = some (.ins C dx fs) ∧ PySem.W.findIn K (.ref C) "__str__" = some (some (.ref g)) ∧ sp [.ref a] H (fun v H' => ∃ x, v = .str x ∧ Q (.str x) H') E
theorem call_strW (F : FnOk X.prog X.w X.K X.mg X.base CX k g fd ps sp) (hr : Room (k + 3) X.A) (hb : Binds X.K fd ps []) (hx : Passes CX X E) (hf : PySem.W.isFn X.K (.ref g) = true) : CallR X (.type "str") (rStrW X.K g sp E) := by
  intro pins s σ H xs us Q I r h
  obtain ⟨a, C, dx, fs, rfl, ha, hs, q⟩ := h
  exact call_strO F hr hb hx hs hf pins s σ H [.ref a] us Q I r ⟨a, dx, fs, rfl, ha, q⟩
end
/-- what the class says of such a sign with what is of the built-in kind T behind it -/
structure OwnBinT (K : PySem.W.Frag) (C f : Addr) (op : Operator) (T : String) : Prop where
  hc : PySem.W.selfFirst K C = true
  hs : PySem.W.findIn K (.ref C) (PySem.dunder op.info.2) = some (some (.ref f))
  hf : PySem.W.isFn K (.ref f) = true
  hr : PySem.W.findIn K (.ref C) (PySem.dunderR op.info.2) = some Option.none
  h1 : ∃ fo, PySem.W.findIn K (.type T) (PySem.dunder op.info.2) = some fo
  h2 : ∃ ro, PySem.W.findIn K (.type T) (PySem.dunderR op.info.2) = some ro
  hsub : PySem.W.subIn K (.type T) (.ref C) = some false
section
variable {prog : Program} {w : World} {A : Around} {E : Value → Shared → Prop} {s : Shared} {K : PySem.W.Frag} {x C L f : Addr} {h₀ : Heap} {m : Str → Option Value} {ox : Obj} {od : Option Obj} {T : String} {b : Value}
theorem bin1_T {nm' : String} {fo ro : Option Value} {Q : Value → Shared → Prop} (F : PyProof.Rows.Fr h₀ L s.heap m) (X₀ : K.In h₀) (I : PySem.W.InstAt s.heap x ox C od) (hT : PySem.W.Looks (model prog w) s.heap (typeOf b) (.type T)) (hc : PySem.W.selfFirst K C = true)
    (hs : PySem.W.findIn K (.ref C) (PySem.dunder nm') = some (some (.ref f))) (hf : PySem.W.isFn K (.ref f) = true) (hr : PySem.W.findIn K (.ref C) (PySem.dunderR nm') = some Option.none)
    (h1 : PySem.W.findIn K (.type T) (PySem.dunder nm') = some fo) (h2 : PySem.W.findIn K (.type T) (PySem.dunderR nm') = some ro) (hsub : PySem.W.subIn K (.type T) (.ref C) = some false)
    (h : wpAny (model prog w) A (call (.ref f) [.ref x, b]) (PySem.W.CmpBack Q) E s) : wpAny (model prog w) A (binaryOp1 nm' (.ref x) b) (fun r s' => ∃ v, r = some v ∧ Q v s') E s := by
  have X := X₀.keeps F.keep
  obtain ⟨cd, rest, hcd, hmr⟩ := PySem.W.ksp_first hc
  have one := PySem.W.ksp_try X I hs hf h
  obtain ⟨hh, g, d, tt, os⟩ := s
  have L1 : PySem.W.Looks (model prog w) hh (typeOf (.ref x)) (.ref C) := I.type
  have L2 : PySem.W.Looks (model prog w) hh (typeOf b) (.type T) := hT
  have L3 : PySem.W.Looks (model prog w) hh (fillsNumberSlot (.ref C) nm') true := PySem.W.fills_K X hcd hmr hs
  have L4 : PySem.W.Looks (model prog w) hh (fillsNumberSlot (.type T) nm') ((fo.isSome && !isSeqSlot fo) || (ro.isSome && !isSeqSlot ro)) := PySem.W.ksp_fillsT X h1 h2
  have L5 : PySem.W.Looks (model prog w) hh (isSubtype (.type T) (.ref C)) false := PySem.W.looks_subIn X hsub
  have L6 : PySem.W.Looks (model prog w) hh (numberSlotInPython (.ref C) nm') true := PySem.W.ksp_inPy X hs hr (.inl rfl)
  have L7 : PySem.W.Looks (model prog w) hh (numberSlotInPython (.type T) nm') false := PySem.W.Looks.of_pure rfl
  have L8 : PySem.W.Looks (model prog w) hh (typeLookup (.type T) (PySem.dunderR nm')) ro := PySem.W.looks_findIn X h2
  generalize ((fo.isSome && !isSeqSlot fo) || (ro.isSome && !isSeqSlot ro)) = right at L4
  have hne : (Value.ref C == Value.type T) = false := Bool.eq_false_iff.mpr fun q => by cases beq_iff_eq.mp q
  unfold binaryOp1
  refine wpAny_bind (L1.at (wpAny_bind (L2.at (wpAny_bind (L3.at ?_)))))
  simp only [hne, Bool.false_eq_true, if_false]
  cases right with
  | false =>
    ksp_lk
    refine wpAny_mono one (fun r s' hr' => ?_) fun _ _ e => e
    obtain ⟨v, rfl, hq⟩ := hr'
    ksp_lk
    exact ⟨v, rfl, hq⟩
  | true =>
    ksp_lk
    refine wpAny_mono one (fun r s' hr' => ?_) fun _ _ e => e
    obtain ⟨v, rfl, hq⟩ := hr'
    ksp_lk
    exact ⟨v, rfl, hq⟩
theorem bin_T {op : Operator} {fo ro : Option Value} {Q : Value → Shared → Prop} (F : PyProof.Rows.Fr h₀ L s.heap m) (X₀ : K.In h₀) (I : PySem.W.InstAt s.heap x ox C od) (hT : PySem.W.Looks (model prog w) s.heap (typeOf b) (.type T)) (hc : PySem.W.selfFirst K C = true)
    (hs : PySem.W.findIn K (.ref C) (PySem.dunder op.info.2) = some (some (.ref f))) (hf : PySem.W.isFn K (.ref f) = true) (hr : PySem.W.findIn K (.ref C) (PySem.dunderR op.info.2) = some Option.none)
    (h1 : PySem.W.findIn K (.type T) (PySem.dunder op.info.2) = some fo) (h2 : PySem.W.findIn K (.type T) (PySem.dunderR op.info.2) = some ro) (hsub : PySem.W.subIn K (.type T) (.ref C) = some false)
    (h : wpAny (model prog w) A (call (.ref f) [.ref x, b]) (PySem.W.CmpBack Q) E s) : wpAny (model prog w) A (binaryOp op (.ref x) b) Q E s := by
  have one := bin1_T F X₀ I hT hc hs hf hr h1 h2 hsub h
  rcases hi : op.info with ⟨sym, nm'⟩
  rw [hi] at one
  dsimp only at one
  simp only [binaryOp, hi]
  refine wpAny_holding (wpAny_bind (wpAny_mono one (fun r s' hr' => ?_) fun _ _ e => e))
  obtain ⟨v, rfl, hq⟩ := hr'
  exact wpAny_pure hq
/-- x != y where y's class is below x's: y is asked first -/
theorem ne_R {y C' : Addr} {oy : Obj} {od' : Option Obj} {Q : Value → Shared → Prop} (hu : A.units + 1 < cLine) (X : K.In s.heap) (I : PySem.W.InstAt s.heap x ox C od) (J : PySem.W.InstAt s.heap y oy C' od') (hn : PySem.W.subIn K (.ref C') (.ref C) = some true) (ne : (Value.ref C != Value.ref C') = true)
    (hm : PySem.W.mroIn K C' (.type "object") = some true) (he : PySem.W.findIn K (.ref C') "__ne__" = some (some (.builtin "object.__ne__"))) (hs : PySem.W.findIn K (.ref C') "__eq__" = some (some (.ref f))) (hf : PySem.W.isFn K (.ref f) = true)
    (h : wpAny (model prog w) A.in1 (call (.ref f) [.ref y, .ref x]) (fun v s' => ∃ c, v = .bool c ∧ Q (.bool (!c)) s') E s) : wpAny (model prog w) A (richCompare .NotEq (.ref x) (.ref y)) Q E s := by
  have one : wpAny (model prog w) A (tryCompare (.ref y) (cmpInfo .NotEq).2.2 (.ref x)) (fun r s' => ∃ v, r = some v ∧ Q v s') E s := by
    unfold tryCompare
    refine wpAny_bind (ifBound_objNe X J he (wpAny_call (codeAny_call_builtin PySem.F.cmp_object.ne.plain PySem.F.cmpEntry_ne (PySem.W.check_slot PySem.F.cmpKind_ne PySem.F.cmpSplit_ne (J.type.andThen (PySem.W.looks_mroIn X hm)) (PySem.F.cmpArgs_ne _ _)
      (neO_entry (A := A.in1) hu X J hs hf (wpAny_mono h (fun v s' hv => ?_) fun _ _ e => e))))))
    obtain ⟨c, rfl, hq⟩ := hv
    exact ⟨c, rfl, wpAny_pure ⟨_, rfl, hq⟩⟩
  unfold richCompare
  simp only [oneThing_ref]
  refine wpAny_holding (wpAny_bind (wpAny_cRoomFor (Nat.lt_of_succ_lt hu) ?_))
  refine wpAny_bind (I.type.here (wpAny_bind (J.type.here ?_)))
  rw [if_pos ne]
  refine wpAny_bind ((PySem.W.looks_subIn X hn).here ?_)
  simp only [if_true]
  refine wpAny_bind (wpAny_mono one (fun r s' z => ?_) fun _ _ e => e)
  obtain ⟨v, rfl, hq⟩ := z
  exact wpAny_bind (wpAny_rule (wpAny_pure hq))
end
section
variable {X : Cx} {CX : CXT} {k : Nat} {g : Addr} {fd : FuncData} {ps : List Str} {sp : Sp} {E : XK}
/-- x op y, x an instance whose method is the def at g, y of a built-in kind -/
def rBinW (K : PySem.W.Frag) (g : Addr) (op : Operator) (sp : Sp) (E : XK) : R2 := fun x y H Q => ∃ (a C dx : Addr) (fs : List (Str × V)) (T : String), x = .ref a ∧ H a = some (.ins C dx fs) ∧ TyX K H y (.type T) ∧ OwnBinT K C g op T ∧ sp [.ref a, y] H (fun v H' => ∃ b, v = .ref b ∧ Q (.ref b) H') E
theorem op_binW {op : Operator} (K : PySem.W.Frag) (hK : X.K = K) (F : FnOk X.prog X.w X.K X.mg X.base CX k g fd ps sp) (hr : Room k X.A) (hb : Binds X.K fd ps []) (hx : Passes CX X E) : OpR X (binaryOp op) (rBinW K g op sp E) := by
  subst hK
  intro pins s σ H x y v u Q I rx ry h
  obtain ⟨a, C, dx, fs, T, rfl, ha, ty, O, q⟩ := h
  obtain rfl : v = Value.ref a := rx
  obtain ⟨o, od, J⟩ := ins_at I ha
  obtain ⟨P, Z, hP, _⟩ := kit_of I ry ty
  obtain ⟨m, hF⟩ := I.fr
  obtain ⟨fo, h1⟩ := O.h1
  obtain ⟨ro, h2⟩ := O.h2
  refine bin_T hF I.ok.mod.kin J (Z.ty _ _ I.kIn hP) O.hc O.hs O.hf O.hr h1 h2 O.hsub (thn (run_fn (us := [.ref a, u]) (vs := [.ref a, y]) F hr hb .nil hx I (.cons rfl (.cons ry .nil)) q) fun r s1 z => ?_)
  obtain ⟨w, H1, I1, rw1, b, rfl, q1⟩ := z
  cases rw1
  exact ⟨.ref b, H1, I1, rfl, q1⟩
/-- x op= i -/
def rIpW (K : PySem.W.Frag) (g : Addr) (op : Operator) (sp : Sp) (E : XK) : R2 := fun x y H Q => ∃ (a C dx : Addr) (fs : List (Str × V)) (i : Int), x = .ref a ∧ y = .int i ∧ H a = some (.ins C dx fs) ∧ OwnBin K C g op ∧ mroNone K C (PySem.dunderI op.info.2) ∧ sp [.ref a, .int i] H (fun v H' => ∃ b, v = .ref b ∧ Q (.ref b) H') E
theorem ip_ownW {op : Operator} (K : PySem.W.Frag) (hK : X.K = K) (F : FnOk X.prog X.w X.K X.mg X.base CX k g fd ps sp) (hr : Room k X.A) (hb : Binds X.K fd ps []) (hx : Passes CX X E) : PIp X op (rIpW K g op sp E) := by
  subst hK
  intro pins s σ H x y v u Q I rx ry h
  obtain ⟨a, C, dx, fs, i, rfl, rfl, ha, O, hm, q⟩ := h
  exact ip_own O hm F hr hb hx pins s σ H (.ref a) (.int i) v u Q I rx ry ⟨a, dx, fs, i, rfl, rfl, ha, q⟩
/-- x != y of instances, their == the def at g -/
def rNeW (K : PySem.W.Frag) (g : Addr) (sp : Sp) (E : XK) : R2 := fun x y H Q => ∃ (a b C C' dx dy : Addr) (fs gs : List (Str × V)), x = .ref a ∧ y = .ref b ∧ H a = some (.ins C dx fs) ∧ H b = some (.ins C' dy gs) ∧
  ((PySem.W.notFirst K C (.ref C') = true ∧ PySem.W.mroIn K C (.type "object") = some true ∧ PySem.W.findIn K (.ref C) "__ne__" = some (some (.builtin "object.__ne__")) ∧ PySem.W.findIn K (.ref C) "__eq__" = some (some (.ref g)) ∧ sp [.ref a, .ref b] H (fun v H' => ∃ c, v = .bl c ∧ Q (.bl (!c)) H') E) ∨
   (PySem.W.subIn K (.ref C') (.ref C) = some true ∧ (Value.ref C != Value.ref C') = true ∧ PySem.W.mroIn K C' (.type "object") = some true ∧ PySem.W.findIn K (.ref C') "__ne__" = some (some (.builtin "object.__ne__")) ∧ PySem.W.findIn K (.ref C') "__eq__" = some (some (.ref g)) ∧ sp [.ref b, .ref a] H (fun v H' => ∃ c, v = .bl c ∧ Q (.bl (!c)) H') E))
theorem op_neW (K : PySem.W.Frag) (hK : X.K = K) (F : FnOk X.prog X.w X.K X.mg X.base CX k g fd ps sp) (hr : Room (k + 1) X.A) (hb : Binds X.K fd ps []) (hx : Passes CX X E) (hf : PySem.W.isFn X.K (.ref g) = true) : OpR X (compareOp .NotEq) (rNeW K g sp E) := by
  subst hK
  intro pins s σ H x y v u Q I rx ry h
  obtain ⟨a, b, C, C', dx, dy, fs, gs, rfl, rfl, ha, hb2, h⟩ := h
  obtain rfl : v = Value.ref a := rx
  obtain rfl : u = Value.ref b := ry
  obtain ⟨o, od, J⟩ := ins_at I ha
  obtain ⟨o2, od2, J2⟩ := ins_at I hb2
  obtain ⟨m, hF⟩ := I.fr
  have hu := hr.units
  show wpAny (model X.prog X.w) X.A (richCompare .NotEq (.ref a) (.ref b)) (EP X pins σ Q) X.xe s
  rcases h with ⟨nf, hm, he, hs, q⟩ | ⟨sb, ne, hm, he, hs, q⟩
  · refine ne_own (tb := .ref C') (by omega) hF I.ok.mod.kin J J2.type nf hm he hs hf (thn (run_fn1 (us := [.ref a, .ref b]) (vs := [.ref a, .ref b]) F hr hb hx I (.cons rfl (.cons rfl .nil)) q) fun r s1 z => ?_)
    obtain ⟨w, H1, I1, rw1, c, rfl, q1⟩ := z
    cases rw1
    exact ⟨c, rfl, .bl (!c), H1, I1, rfl, q1⟩
  · refine ne_R (by omega) I.kIn J J2 sb ne hm he hs hf (thn (run_fn1 (us := [.ref b, .ref a]) (vs := [.ref b, .ref a]) F hr hb hx I (.cons rfl (.cons rfl .nil)) q) fun r s1 z => ?_)
    obtain ⟨w, H1, I1, rw1, c, rfl, q1⟩ := z
    cases rw1
    exact ⟨c, rfl, .bl (!c), H1, I1, rfl, q1⟩
end

/-! ### an error that is caught and kept -/
/-- at a: an exception of the class cls whose own dict is d -/
def XO (a : Addr) (cls : Value) (d : Option Addr) : HO := .ext fun h => ∃ (o : Obj) (vs : Array Value), h.get? a = some o ∧ Zc cls d o ∧ o.data = .fields vs
theorem XO_at {P : Program} {w : World} {H : Hp} {h : Heap} {a : Addr} {cls : Value} {d : Option Addr} (hok : HOk P w H h) (e : H a = some (XO a cls d)) : ∃ (o : Obj) (vs : Array Value), h.get? a = some o ∧ Zc cls d o ∧ o.data = .fields vs := by
  have x : ObjOk P w H h a (.ext fun h => ∃ (o : Obj) (vs : Array Value), h.get? a = some o ∧ Zc cls d o ∧ o.data = .fields vs) := hok a _ e
  exact x.1
theorem XO_ne {a : Addr} {cls : Value} {d : Option Addr} {u : HO} (h : ∀ φ, u ≠ .ext φ) : XO a cls d ≠ u := fun z => h _ z.symm
/-- an object that stands in the heap since the entry is taken up -/
theorem track {X : Cx} {pins : List (Addr × Obj)} {σ : L2.St} {H : Hp} {s : Shared} {a : Addr} {cls : Value} {d : Option Addr} {o : Obj} {vs : Array Value} (I : Inv X pins σ H s) (ha : s.heap.get? a = some o) (hz : Zc cls d o) (hd : o.data = .fields vs) (na : H a = Option.none)
    (n0 : X.s_0.heap.get? a = Option.none) (np : ∀ p ∈ X.pn ++ pins, p.1 ≠ a) (nL : a ≠ X.env.locals) : Inv X pins σ (upd H a (XO a cls d)) s := by
  have other : ∀ b u, H b = some u → b ≠ a := fun b u e => ne_of_none e na
  have cell : ∀ x c, X.env.cells.lookup x = some c → c ≠ a := fun x c e z => by
    obtain ⟨v, oc, q1, q2⟩ := I.cell x c e
    rw [z, ha] at q1
    cases q1
    rw [hd] at q2
    cases q2
  have start0 : ∀ b u, X.s_0.heap.get? b = some u → b ≠ a := fun b u e z => by
    rw [z, n0] at e
    cases e
  have B := I.base
  exact { ok := I.ok, os := I.os, bare := I.bare, loc := I.loc, cell := I.cell, len := I.len
          base := { keep := B.keep, slot := B.slot, there := B.there
                    free := fun b u e1 e2 e3 => by rw [upd_ne (start0 b u e1)]; exact B.free b u e1 e2 e3
                    tups := fun b xs e => by rw [upd_ne (other b _ (B.tups b xs e))]; exact B.tups b xs e
                    frzs := fun b ob u e => by rw [upd_ne (other b _ (B.frzs b ob u e))]; exact B.frzs b ob u e
                    tbls := fun b ps e => by
                      obtain ⟨more, q⟩ := B.tbls b ps e
                      exact ⟨more, by rw [upd_ne (other b _ q)]; exact q⟩ }
          free := by rw [upd_ne (Ne.symm nL)]; exact I.free
          freeC := fun x c e => by rw [upd_ne (cell x c e)]; exact I.freeC x c e
          pin := fun p hp => by
            obtain ⟨q1, q2, q3⟩ := I.pin p hp
            exact ⟨q1, by rw [upd_ne (np p hp)]; exact q2, q3⟩
          hok := fun b u e => by
            by_cases hb : b = a
            · rw [hb, upd_same] at e
              cases e
              rw [hb]
              exact ⟨⟨o, vs, ha, hz, hd⟩, ⟨o, ha⟩, fun h1 h2 ⟨o1, v1, q1, q2⟩ k => ⟨o1, v1, k _ q1, q2⟩⟩
            · rw [upd_ne hb] at e
              exact (I.hok b u e).stay (fun _ _ _ q => q) (fun c q => by rw [upd_ne (other c _ q)]; exact q) fun c xs q => by rw [upd_ne (other c _ q)]; exact q }
/-- what the clause «except x as n» wishes, the error kept behind it -/
def wKeep (K : PySem.W.Frag) (c : Value) (i : Nat) (ts : Addr → Value → Option Addr → TS) (D : Ends) : WX := fun cls d σ H =>
  PySem.W.exmOne K cls c = some true ∧ ∀ a, H a = Option.none → ts a cls d { nx := fun σ1 H1 => H1 a = Option.none → D.nx (σ1.set i Option.none) (upd H1 a (XO a cls d)), rt := fun _ _ => False } (σ.set i (some (.ref a))) H
section
variable {X : Cx} {x n : Str} {c : Value} {i : Nat} {body suite : List Stmt} {b₀ : Stmt} {np pos pos' : Pos} {tb : WX → TS} {ts : Addr → Value → Option Addr → TS}
theorem ps_try_keep (hs : X.stack = X.env :: X.outer) (hf : X.env.frame = some X.env.locals) (hex : X.ex = []) (hN : X.N.Nodup) (hi : X.N[i]? = some n) (hln : X.env.kindOf n = some .local) (hc : Names X x c)
    (hb : ∀ (W : WX) (pn : List (Addr × Obj)) (xe : Value → Shared → Prop), Takes (X.tr pn xe) W → PassesOwn (model X.prog X.w) X.A X.env xe → PSs (X.tr pn xe) body (tb W))
    (hsu : ∀ (a : Addr) (oe : Obj) (cls : Value) (d : Option Addr) (pn : List (Addr × Obj)), Zc cls d oe → (∃ vs, oe.data = .fields vs) → PSs (X.suite a ((a, oe) :: pn)) (b₀ :: suite) (ts a cls d)) :
    PS X (.Try body [.ExceptHandler (some (.Name x np)) (some n) (b₀ :: suite) pos'] [] [] pos) (fun D σ H => tb (wKeep X.K c i ts D) D σ H) := by
  refine ⟨fun pins s σ H D I h => wpAny_Try_except ?_⟩
  have ok := I.ok
  have frames : X.A.frames = some (X.env :: X.outer) := ok.frames.trans (by rw [hs])
  have R := (hb (wKeep X.K c i ts D) (X.pn ++ pins)
    (fun e q1 => wpAny (model X.prog X.w) X.A (noteFrame e X.env) (fun _ q2 => wpAny (model X.prog X.w) X.A (setFlight e none) (fun _ q3 => wpAny (model X.prog X.w) X.A (handleBy e X.env [.ExceptHandler (some (.Name x np)) (some n) (b₀ :: suite) pos']) (SP X pins D) X.xe q3) X.xe q2) X.xe q1)
    (fun u q xx => ?caught) PassesOwn.looking).run [] s σ H D (I.toTry _) h
  case caught =>
    obtain ⟨a, B, t, ps1, σ1, H1, cls, d, rfl, J0, ground, upto, sky, na, os, ag, yes, rest⟩ := xx
    have J : Inv X pins σ1 H1 t := J0.ofTry ok
    show wpAny (model X.prog X.w) X.A (noteFrame (.ref a) X.env) _ _ _
    refine Sky.land Zc.steady frames hf (hs ▸ sky) fun hp fl upto2 => ?_
    have J1 : Inv X pins σ1 H1 { q with heap := hp } := J.landed ground fl.1 (upto.trans upto2) os ag
    obtain ⟨o1, v1, at1, z1, d1⟩ := fl.there
    have nfr : a ∉ frs (X.env :: X.outer) := fun hm => by
      obtain ⟨_, o2, e2, nd⟩ := fl.2.2.1.mem hm
      rw [at1] at e2
      cases e2
      exact nd _ d1
    have nL : a ≠ X.env.locals := fun z => nfr (List.mem_filterMap.mpr ⟨X.env, List.mem_cons_self, by rw [hf, z]⟩)
    have nF : a ∉ X.fs := fun hm => by
      obtain ⟨e, he, z⟩ := List.mem_filterMap.mp hm
      exact nfr (List.mem_filterMap.mpr ⟨e, List.mem_cons_of_mem _ he, z⟩)
    -- it did not stand there
    have nt : t.heap.get? a = Option.none := by
      match z : t.heap.get? a with
      | Option.none => rfl
      | some o2 =>
        have z2 := ground a o2 z (by rw [hs]; exact nfr)
        rw [fl.2.1] at z2
        cases z2
    have n0 : X.s_0.heap.get? a = Option.none := by
      match z : X.s_0.heap.get? a with
      | Option.none => rfl
      | some o2 =>
        obtain ⟨o3, z3⟩ := J.base.there a o2 z (by rw [hex]; exact List.not_mem_nil)
        rw [nt] at z3
        cases z3
    have npn : ∀ p ∈ X.pn ++ pins, p.1 ≠ a := fun p hp z => by
      have z2 := (J.pin p hp).1
      rw [z, nt] at z2
      cases z2
    have S1 := J1.suite at1 d1 na nL nF
    refine wpAny_handleBy_cons (codeAny_handlers_test ?_) (by intro z; cases z)
    have kind : PySem.W.Looks (model X.prog X.w) hp (typeOf (.ref a)) cls := fun A Q E s1 k z => wpAny_typeOf_ref (k _ _ at1) (by rw [z1.1]; exact z)
    have meets := PySem.W.exm_one (M := model X.prog X.w) J1.kIn kind yes
    have look : ∀ {Q : Value → Shared → Prop} {E : Value → Shared → Prop}, Q c { q with heap := hp } → wpAny (model X.prog X.w) (X.A.mark (some (.ref a))) (eval (.Name x np) X.env) Q E { q with heap := hp } := fun {Q E} z => by
      obtain ⟨g1, g2, g3⟩ := hc
      rcases g3 with g3 | ⟨g3, g4, g5⟩
      · exact ld_glob (X := X.suite a ((a, o1) :: (X.pn ++ pins))) S1 g1 g3 z g2
      · exact ld_blt (X := X.suite a ((a, o1) :: (X.pn ++ pins))) S1 g1 g3 g4 z g5 g2
    refine look (meets.here (codeAny_handlers_suite_as (HandSPX.lands_againZ fl fun hp2 fl2 upto3 => ?_)))
    have J2 : Inv X pins σ1 H1 { q with heap := hp2 } := J.landed ground fl2.1 ((upto.trans upto2).trans upto3) os ag
    obtain ⟨o2, v2, at2, z2, d2⟩ := fl2.there
    refine store_ok (X := X.suite a ((a, o2) :: (X.pn ++ pins))) (v := .ref a) (J2.suite at2 d2 na nL nF) hN hi (.inl hln) rfl (fun s5 S5 => ?_) (.inr hln)
    refine wpAny_mono ((hsu a o2 cls d (X.pn ++ pins) z2 ⟨_, d2⟩).run [] s5 _ H1 _ S5 (rest a na)) (fun f s6 hsp => ?_) (fun _ _ z => z.elim)
    match f, hsp with
    | .next, ⟨σ6, H6, S6, q6⟩ =>
      obtain ⟨p1, p2, _⟩ := S6.pin (a, o2) (List.mem_append_left _ List.mem_cons_self)
      have J6 := track (S6.unsuite ok) p1 z2 d2 p2 n0 npn nL
      exact gone_ok J6 hN hi hln fun s7 J7 => ⟨_, _, J7, q6 p2⟩
    | .ret u, ⟨_, _, _, _, _, z⟩ => exact z.elim
    | .brk, ⟨_, _, _, z⟩ => exact z.elim
    | .cont, ⟨_, _, _, z⟩ => exact z.elim
  refine wpAny_mono R (fun f s1 hsp => ?_) fun e s1 he => he
  match f, hsp with
  | .next, ⟨σ1, H1, J, q⟩ => exact wpAny_execs_nil ⟨σ1, H1, J.ofTry ok, q⟩
  | .ret u, ⟨v, σ1, H1, J, r, q⟩ => exact ⟨v, σ1, H1, J.ofTry ok, r, q⟩
  | .brk, ⟨σ1, H1, J, q⟩ => exact ⟨σ1, H1, J.ofTry ok, q⟩
  | .cont, ⟨σ1, H1, J, q⟩ => exact ⟨σ1, H1, J.ofTry ok, q⟩
end
/-- what the written part says of an error's class C -/
structure ErrC (K : PySem.W.Frag) (C : Addr) : Prop where
  cl : (PySem.W.clsIn K C).isSome = true
  ga : PySem.W.findIn K (.ref C) "__getattribute__" = some (some (.builtin "BaseException.__getattribute__"))
  gg : PySem.W.findIn K (.ref C) "__getattr__" = some Option.none
  ex : PySem.W.subIn K (.ref C) (.type "BaseException") = some true
  hd : PySem.W.hasDictIn K C = true
  ha : PySem.W.findIn K (.ref C) "__class__" = some (some (.builtin "object.__class__"))
  hn : PySem.W.specialIn K (.builtin "object.__class__") "__get__" = some (some (.builtin "getset_descriptor.__get__"))
  ht : PySem.W.takesIn K (.builtin "object.__class__") = some true
  hm : PySem.W.mroIn K C (.type "object") = some true
theorem XO_inst {X : Cx} {pins : List (Addr × Obj)} {σ : L2.St} {H : Hp} {s : Shared} {a C d : Addr} {fs : List (Str × V)} (I : Inv X pins σ H s) (e : H a = some (XO a (.ref C) (some d))) (ed : H d = some (.xd fs)) :
    ∃ (o od : Obj), PySem.W.InstAt s.heap a o C (some od) ∧ ∃ mA : Str → Option Value, (∀ f, RelO (fs.lookup f) (mA f)) ∧ ∀ f : Str, PySem.W.lookIn f od = some (mA f) := by
  obtain ⟨o, vs, h1, h2, h3⟩ := XO_at I.hok e
  obtain ⟨mA, hns, hr⟩ := (show ObjOk X.prog X.w H s.heap d (.xd fs) from I.hok d _ ed)
  obtain ⟨od, ho, hl⟩ := lookIn_ns hns
  exact ⟨o, od, ⟨h1, h2.1, by unfold PySem.W.notCls; rw [h3] <;> rfl, by rw [h2.2]; exact ho⟩, mA, hr, hl⟩
/-- isinstance(e, c), e kept -/
def rIsK (K : PySem.W.Frag) : List V → Hp → VK → Prop := fun xs H Q => ∃ (a C d : Addr) (fs : List (Str × V)) (c : V) (cv : Value) (b : Bool), xs = [.ref a, c] ∧ H a = some (XO a (.ref C) (some d)) ∧ H d = some (.xd fs) ∧ ErrC K C ∧ (∀ u, RelV c u → u = cv) ∧ PySem.W.kitOne K (.ref C) cv = some b ∧ Q (.bl b) H
theorem call_isK {X : Cx} : CallR X (.builtin "isinstance") (rIsK X.K) := by
  intro pins s σ H xs us Q I r h
  obtain ⟨a, C, d, fs, c, cv, b, rfl, e, ed, T, hc, k, q⟩ := h
  obtain ⟨u1, u2, rfl, r1, r2⟩ := vals2 r
  obtain rfl : u1 = Value.ref a := r1
  have e2 := hc _ r2
  subst e2
  obtain ⟨o, od, J, _⟩ := XO_inst I e ed
  exact PySem.W.kia_one (PySem.W.kitx_exc T.cl T.ga T.gg T.ex T.ha T.hn T.ht T.hm) I.kIn J k (fun z => nomatch z) fun tk => ⟨.bl b, H, I.kept (t' := tk) fun _ _ z => z, rfl, q⟩
/-- e.f, e kept -/
def tFldK (K : PySem.W.Frag) (f : Str) (te : TE) : TE := fun σ H Q => te σ H fun x H1 => ∃ (a C d : Addr) (fs : List (Str × V)) (v : V), x = .ref a ∧ H1 a = some (XO a (.ref C) (some d)) ∧ H1 d = some (.xd fs) ∧ ErrC K C ∧ PySem.W.findIn K (.ref C) f = some Option.none ∧ fs.lookup f = some v ∧ Q v H1
theorem pe_fldK {X : Cx} {e : Expr} {te : TE} {f : Str} {pos : Pos} (he : PE X e te) (hb : attributeBase e f X.env (eval e X.env) = eval e X.env := by rfl) : PE X (.Attribute e f pos) (tFldK X.K f te) := by
  refine ⟨fun pins s σ H Q I h => attr_of hb (thn (he.run pins s σ H _ I h) fun u s1 hh => ?_)⟩
  obtain ⟨y, H1, I1, ry, a, C, d, fs, v, rfl, ea, ed, T, no, l, q⟩ := hh
  obtain rfl : u = Value.ref a := ry
  obtain ⟨o, od, J, mA, hr, hl⟩ := XO_inst I1 ea ed
  obtain ⟨u, hu, ru⟩ := RelO.some_of (v := v) (o := mA f) (by rw [← l]; exact hr f)
  exact HandSPX.exc_get I1.kIn J T.ga T.gg T.ex (PySem.W.findObj_own T.hd no rfl (by rw [hl, hu])) (handed_of ru) ⟨v, H1, I1.tok _, ru, q⟩

/-! ### {**a, k: v} -/
section
variable {prog : Program} {w : World} {K : Type} [DecidableEq K] {knd : KeyKind prog w K} {A : Around} {E : Value → Shared → Prop} {s : Shared}
theorem put_of {d : Addr} {kvs : List (K × Value)} {k : K} {key v : Value} {Q : Unit → Shared → Prop} (hkey : knd.is k key = true) (hm : s.heap.DictOf knd d kvs) (hsz : kvs.length ≤ sizeLine)
    (hQ : ∀ h', h'.DictOf knd d (stored kvs k v) → Heap.SameBut d s.heap h' → Q () { s with heap := h' }) : wpAny (model prog w) A (dictPut d (knd.hash k) key v) Q E s := by
  obtain ⟨o, es, ep, ho, hc, hd, hk, hp, hn⟩ := hm
  have hes : es.size ≤ sizeLine := by
    have e1 := hp.length
    rw [Array.length_toList] at e1
    omega
  have ix : (es.findIdx? fun e => knd.is k e.key) = kvs.findIdx? fun kv => decide (kv.1 = k) := by
    rw [← hp.findIdx k]; obtain ⟨l⟩ := es; simp
  unfold dictPut
  refine wpAny_bind (wpAny_dictFind_of hkey ho hd hk ?_)
  cases hi : es.findIdx? fun e => knd.is k e.key with
  | some i =>
    have hl : (es.toList.findIdx? fun e => knd.is k e.key) = some i := by rw [← hi]; obtain ⟨l⟩ := es; simp
    refine wpAny_updateDict ho hd (hQ _ ⟨_, _, ep, Heap.get?_update_self _ ho (Obj.isFreed_of_dict (Obj.data_mapDict hd _)), hc.mapDict _, Obj.data_mapDict hd _, hk.modify _ _, ?_, ?_⟩ (Heap.SameBut.update ..))
    · rw [stored, if_pos (any_of_findIdx_some (ix ▸ hi))]
      have z := hp.modify hn hl v
      rw [Array.toList_modify]
      exact z
    · rw [stored, if_pos (any_of_findIdx_some (ix ▸ hi)), keys_map_store]
      exact hn
  | none =>
    have no : k ∉ kvs.map (·.1) := not_mem_of_findIdx_none (ix ▸ hi)
    have na : ¬ (kvs.any fun kv => decide (kv.1 = k)) = true := fun z => by
      obtain ⟨kv, hkv, he⟩ := List.any_eq_true.mp z
      exact no (List.mem_map.mpr ⟨kv, hkv, of_decide_eq_true he⟩)
    refine wpAny_updateDictKeys (hz := hes) ho hd (hQ _ ⟨_, _, ep + 1, Heap.get?_update_self _ ho (Obj.isFreed_of_dict (Obj.data_mapDictKeys hd _)), hc.mapDictKeys _, Obj.data_mapDictKeys hd _, hk.push hkey _, ?_, ?_⟩ (Heap.SameBut.update ..))
    · rw [stored, if_neg na, Array.toList_push]
      exact hp.append hkey (knd.hash k) v
    · rw [stored, if_neg na, List.map_append, List.nodup_append]
      refine ⟨hn, by simp, fun a ha b hb => ?_⟩
      simp only [List.map_cons, List.map_nil, List.mem_singleton] at hb
      subst hb
      exact fun e => no (e ▸ ha)
theorem merge_map {d a : Addr} {kvs more : List (K × Value)} {Q : Unit → Shared → Prop} (nr : ∀ k b, knd.is k (.ref b) = false) (hda : d ≠ a) (haS : (a == sysModules) = false) (hd : s.heap.DictOf knd d kvs) (ha : s.heap.DictOf knd a more) (hsz : kvs.length + more.length ≤ sizeLine)
    (hQ : ∀ h', h'.DictOf knd d (merged kvs more) → h'.DictOf knd a more → Heap.SameBut d s.heap h' → Q () { s with heap := h' }) : wpAny (model prog w) A (mergeMapping d (.ref a) false) Q E s := by
  obtain ⟨od, esd, epd, hod, hcd, hdd, hkd, hpd, hnd⟩ := id hd
  obtain ⟨oa, esa, epa, hoa, hca, hda', hka, hpa, hna⟩ := id ha
  have hlen : more.length = esa.size := by rw [← hpa.length, Array.length_toList]
  unfold mergeMapping
  refine wpAny_bind (wpAny_isInstance ha.typeIs isSubtype_dict_dict ?_)
  dsimp only
  rw [if_pos rfl]
  refine wpAny_bind (wpAny_specialOf ha.typeIs F.slot_dict_iter.lookup ?_)
  rw [show ((some (Value.builtin "dict.__iter__") : Option Value) == some (.builtin "dict.__iter__")) = true from beq_self_eq_true _]
  refine wpAny_bind (wpAny_pure ?_)
  dsimp only
  rw [if_neg (by rw [haS]; exact Bool.false_ne_true)]
  refine wpAny_bind (wpAny_dictEntries hod hdd ?_)
  have loop : wpAny (model prog w) A (do
      let l ← dictEntries a
      let epoch ← dictEpoch a
      forIn (List.range l.size) PUnit.unit fun i (_ : PUnit) => (do
          let l' ← dictEntries a
          match l'[i]? with
            | some e => do
              holding [e.key, e.val] (dictPut d e.hash e.key e.val)
              let ep' ← dictEpoch a
              if (ep' != epoch) = true then do
                  (unsupported "dict.changed-during-merge" : Sem PUnit)
                  pure (ForInStep.yield PUnit.unit)
                else pure (ForInStep.yield PUnit.unit)
            | _ => do
              (unsupported "dict.changed-during-merge" : Sem PUnit)
              pure (ForInStep.yield PUnit.unit) : Sem (ForInStep PUnit))
      pure ()) Q E s := by
    refine wpAny_bind (wpAny_dictEntries hoa hda' ?_)
    refine wpAny_bind (wpAny_dictEpoch hoa hda' ?_)
    refine wpAny_bind (wpAny_forIn_list _
      (fun rest _ s' => ∃ h' i, s' = { s with heap := h' } ∧ rest = (List.range esa.size).drop i ∧ i ≤ esa.size ∧ h'.DictOf knd d (merged kvs (more.take i)) ∧ h'.get? a = some oa ∧ Heap.SameBut d s.heap h')
      _ ?_ ?_ _ _ ⟨s.heap, 0, rfl, by simp, Nat.zero_le _, by simpa [merged] using hd, hoa, Heap.SameBut.refl _ _⟩)
    · rintro x rest b s' ⟨h', i, rfl, hr, hi, hd', hoa', hs'⟩
      have hlt : i < esa.size := by
        rcases Nat.lt_or_ge i esa.size with z | z
        · exact z
        · rw [List.drop_of_length_le (by rw [List.length_range]; exact z)] at hr
          cases hr
      obtain ⟨rfl, hrest⟩ : x = i ∧ rest = (List.range esa.size).drop (i + 1) := by
        rw [List.drop_eq_getElem_cons (by rw [List.length_range]; exact hlt), List.getElem_range] at hr
        injection hr with h1 h2
        exact ⟨h1, h2⟩
      refine wpAny_bind (wpAny_dictEntries hoa' hda' ?_)
      rw [Array.getElem?_eq_getElem hlt]
      obtain ⟨⟨k, v⟩, hkv⟩ : ∃ kv, more[x]? = some kv := ⟨more[x]'(by rw [hlen]; exact hlt), List.getElem?_eq_getElem _⟩
      obtain ⟨hkey, hval⟩ := hpa.get? (e := esa[x]) (by simp [hlt]) hkv
      obtain ⟨k', hkey', hhash⟩ := hka esa[x] (Array.getElem_mem hlt)
      obtain rfl : k' = k := knd.inj _ _ _ hkey' hkey
      dsimp only
      rw [hhash, hval]
      have hmx : (merged kvs (more.take x)).length ≤ sizeLine := by
        have e1 := merged_length_le kvs (more.take x)
        have e2 : (more.take x).length ≤ more.length := by rw [List.length_take]; omega
        omega
      refine wpAny_bind (wpAny_holding (put_of hkey hd' hmx fun h'' hd'' hs'' => ?_))
      have hoa'' : h''.get? a = some oa := (hs''.2 a (Ne.symm hda)).trans hoa'
      refine wpAny_bind (wpAny_dictEpoch hoa'' hda' ?_)
      rw [if_neg (by simp)]
      exact wpAny_pure ⟨h'', x + 1, rfl, hrest, hlt, by rw [merged_take_succ kvs more x (k', v) hkv]; exact hd'', hoa'', hs'.trans hs''⟩
    · rintro b s' ⟨h', i, rfl, hr, hi, hd', hoa', hs'⟩
      have hin : i = esa.size := by
        rcases Nat.lt_or_ge i esa.size with z | z
        · rw [List.drop_eq_getElem_cons (by rw [List.length_range]; exact z)] at hr
          cases hr
        · exact Nat.le_antisymm hi z
      refine wpAny_pure (hQ h' ?_ ⟨oa, esa, epa, hoa', hca, hda', hka, hpa, hna⟩ hs')
      rw [hin, ← hlen, List.take_length] at hd'
      exact hd'
  split
  · refine wpAny_bind (wpAny_dictEntries hoa hda' ?_)
    refine wpAny_bind (PySem.MeetsSeq2.wpAny_forIn_array _ (fun rest _ s' => s' = s ∧ ∀ e ∈ rest, e ∈ esa) _ ?_ ?_ _ _ ⟨rfl, fun e he => Array.mem_toList_iff.mp he⟩)
    · rintro e rest b s' ⟨rfl, hr⟩
      obtain ⟨k, hk, _⟩ := hka e (hr e List.mem_cons_self)
      have nk : ∀ z, e.key ≠ .ref z := fun z q => by rw [q, nr] at hk; cases hk
      split
      · rename_i z q
        exact absurd q (nk z)
      · exact wpAny_pure ⟨rfl, fun e he => hr e (List.mem_cons_of_mem _ he)⟩
    · rintro b s' ⟨rfl, _⟩
      exact loop
  · exact loop
end
section
variable {prog : Program} {w : World} {K : Type} [DecidableEq K] {knd : KeyKind prog w K} {A : Around} {E : Value → Shared → Prop} {s : Shared}
/-- {**va, tk: tv}: a new dict gets what va has; the pair is made into a dict of its own, which is then laid over it -/
theorem display_un {va tk tv : Sem Value} {Q : Value → Shared → Prop} (nr : ∀ k b, knd.is k (.ref b) = false)
    (h : wpAny (model prog w) A va (fun m s1 => ∃ (a : Addr) (kvs : List (K × Value)), m = .ref a ∧ s.heap.objs.size ≠ a ∧ (a == sysModules) = false ∧ s1.heap.DictOf knd s.heap.objs.size [] ∧ s1.heap.DictOf knd a kvs ∧ kvs.length < sizeLine ∧
      ∀ h1, h1.DictOf knd s.heap.objs.size kvs → Heap.SameBut s.heap.objs.size s1.heap h1 →
        wpAny (model prog w) A (evalPairs [(tk, tv)]) (fun vs s2 => ∃ (k : K) (v : Value) (kvs2 : List (K × Value)), Carries knd vs [(k, v)] ∧ s2.heap.DictOf knd h1.objs.size [] ∧ s2.heap.DictOf knd s.heap.objs.size kvs2 ∧ kvs2.length < sizeLine ∧ s.heap.objs.size ≠ h1.objs.size ∧ (h1.objs.size == sysModules) = false ∧
          ∀ h2 h3, h2.DictOf knd h1.objs.size [(k, v)] → Heap.SameBut h1.objs.size s2.heap h2 → h3.DictOf knd s.heap.objs.size (stored kvs2 k v) → h3.DictOf knd h1.objs.size [(k, v)] → Heap.SameBut s.heap.objs.size h2 h3 → Q (.ref s.heap.objs.size) { s2 with heap := h3, toks := s2.toks + vs.length }) E
          { s1 with heap := h1.push { cls := .type "dict", data := .dict #[] } }) E
      { s with heap := s.heap.push { cls := .type "dict", data := .dict #[] } }) : wpAny (model prog w) A (dictDisplay [(none, va), (some tk, tv)]) Q E s := by
  unfold dictDisplay
  simp only [List.forIn_cons, List.forIn_nil, pure_bind, bind_assoc, List.isEmpty_nil, if_true, List.nil_append, List.length_cons, List.length_nil]
  refine wpAny_bind (wpAny_alloc (wpAny_bind (wpAny_holding (wpAny_mono h (fun m s1 z => ?_) fun _ _ e => e))))
  obtain ⟨a, kvs, rfl, na, nS, hd, ha, hl, z⟩ := z
  refine wpAny_bind (wpAny_onRaise (wpAny_tryCatch (wpAny_onRaise (wpAny_holding (merge_map nr na nS hd ha (by simp; omega) fun h1 hd1 ha1 hs1 => ?_)))))
  have hn : (kvs.map (·.1)).Nodup := by
    obtain ⟨_, _, _, _, _, _, _, _, hn⟩ := ha
    exact hn
  rw [merged_nil_of_nodup kvs hn] at hd1
  rw [if_neg (show ¬ ((0 + 1 == 17) = true) by decide)]
  refine wpAny_bind (wpAny_pure ?_)
  dsimp only
  refine wpAny_bind (wpAny_pure ?_)
  dsimp only
  rw [if_neg (show ¬ (([(tk, tv)] : List (Sem Value × Sem Value)).isEmpty = true) from Bool.false_ne_true)]
  refine wpAny_bind (wpAny_bind (wpAny_holding (wpAny_subDict (knd := knd) (show 1 ≤ 15 by decide) (wpAny_mono (z h1 hd1 hs1) (fun vs s2 y => ?_) fun _ _ e => e))))
  obtain ⟨k, v, kvs2, hc, h0, hd2, hl2, ne, nS2, q⟩ := y
  refine ⟨[(k, v)], hc, h0, fun h2 hs2 hb2 => ?_⟩
  have hs2 : h2.DictOf knd h1.objs.size [(k, v)] := hs2
  refine wpAny_bind (wpAny_onRaise (wpAny_holding (merge_map nr ne nS2 (hd2.sameBut hb2 ne) hs2 (by simp; omega) fun h3 hd3 hs3 hb3 => ?_)))
  refine wpAny_pure ?_
  dsimp only
  exact wpAny_pure (q h2 h3 hs2 hb2 hd3 hs3 hb3)
end
theorem mix_ref {prog : Program} {w : World} (k : Key) (b : Addr) : (mixKind prog w).is k (.ref b) = false := by
  cases e : (mixKind prog w).is k (.ref b) with
  | false => rfl
  | true =>
    rcases keyIs_shape e with ⟨_, _, _, z⟩ | ⟨_, _, _, z⟩ <;> cases z
/-- {**e, k: v}: e's entries, k's among them or behind -/
def tDUn (ta tk tv : TE) : TE := fun σ H Q => ∀ d, H d = Option.none → ta σ (upd H d (.dK [])) fun x H1 => ∃ (a : Addr) (kvs : List (Key × V)), x = .ref a ∧ a ≠ d ∧ H1 a = some (.dK kvs) ∧ H1 d = some (.dK []) ∧ kvs.length < sizeLine ∧
  ∀ e, (upd H1 d (.dK kvs)) e = Option.none → tk σ (upd (upd H1 d (.dK kvs)) e (.dK [])) fun y H2 => tv σ H2 fun z H3 => H3 e = some (.dK []) ∧ H3 d = some (.dK kvs) ∧ ∃ k : Key, y = kV k ∧ Q (.ref d) (upd (upd H3 e (.dK [(k, z)])) d (.dK (putK kvs k z)))
theorem pe_dun {X : Cx} {pos : Pos} {ea ek ev : Expr} {ta tk tv : TE} (ha : PE X ea ta) (hk : PE X ek tk) (hv : PE X ev tv) : PE X (.Dict [Option.none, some ek] [ea, ev] pos) (tDUn ta tk tv) := by
  refine ⟨fun pins s σ H Q I q => ?_⟩
  have hn := I.hok.fresh (Nat.le_refl s.heap.objs.size)
  have I1 := I.laid (a := s.heap.objs.size) (o := .dK []) (h' := s.heap.push { cls := .type "dict", data := .dict #[] }) (t' := s.toks) (fun _ _ q => Heap.get?_push_of_some _ q) (Nat.le_refl _) (dk_empty s.heap I.big)
  rw [arm_eval_Dict]
  refine wpAny_bind (wpAny_standAt ?_)
  refine display_un (knd := mixKind X.prog X.w) mix_ref (wpAny_bind (thn (ha.run pins _ σ _ _ I1 (q _ hn)) fun u s1 z => ?_))
  obtain ⟨x, H1, J1, rx, a, kvs, rfl, na, ea, ed, hl, q1⟩ := z
  obtain rfl : u = Value.ref a := rx
  refine wpAny_bind (wpAny_standAt (wpAny_pure ?_))
  obtain ⟨zl, nS, vs, r, dd⟩ := dk_of J1.hok ea
  obtain ⟨_, dS, vs0, r0, d0⟩ := dk_of J1.hok ed
  cases r0
  have lv : vs.length = kvs.length := r.length.symm
  refine ⟨a, vs, rfl, Ne.symm na, nS, d0, dd, by omega, fun h1 hd1 hb1 => ?_⟩
  have he1 : ∃ p, h1.get? s.heap.objs.size = some p := by
    obtain ⟨p, _, _, hp, _⟩ := hd1
    exact ⟨p, hp⟩
  have J2 := d_write (t' := s1.toks) J1 (by rw [ed]; exact True.intro) hb1 he1 (dk_new zl dS r hd1)
  have hn2 := J2.hok.fresh (Nat.le_refl h1.objs.size)
  have J3 := J2.laid (a := h1.objs.size) (o := .dK []) (h' := h1.push { cls := .type "dict", data := .dict #[] }) (t' := s1.toks) (fun _ _ q => Heap.get?_push_of_some _ q) (Nat.le_refl _) (dk_empty h1 J2.big)
  refine thn ((pps_cons (pos := pos) hk hv pps_nil).run pins _ σ _ (fun ps H3 => match ps with
    | [(y, z)] => H3 h1.objs.size = some (.dK []) ∧ H3 s.heap.objs.size = some (.dK kvs) ∧ ∃ k : Key, y = kV k ∧ Q (.ref s.heap.objs.size) (upd (upd H3 h1.objs.size (.dK [(k, z)])) s.heap.objs.size (.dK (putK kvs k z)))
    | _ => False) J3 (q1 _ hn2)) fun ws s2 z => ?_
  obtain ⟨ps, H3, J4, rel, qq⟩ := z
  match ps, qq with
  | [(y, z)], qq =>
    obtain ⟨e3, e4, k, rfl, q2⟩ := qq
    obtain ⟨rs, c, rk⟩ := carries_of (P := X.prog) (w := X.w) (kvs := [(k, z)]) rel
    obtain ⟨zl2, _, vs2, r2, d2⟩ := dk_of J4.hok e4
    obtain ⟨_, eS, vs3, r3, d3⟩ := dk_of J4.hok e3
    cases r3
    match rs, rk with
    | [(k', v)], rk =>
      obtain rfl : k' = k := by
        cases rk with
        | cons p _ => exact p.1.symm
      have ne : s.heap.objs.size ≠ h1.objs.size := fun z => by
        rw [← z, upd_same] at hn2
        cases hn2
      have lv2 : vs2.length = kvs.length := r2.length.symm
      refine ⟨k', v, vs2, c, d3, d2, by omega, ne, eS, fun h2 h3 hs2 hb2 hd3 hs3 hb3 => ?_⟩
      have he2 : ∃ p, h2.get? h1.objs.size = some p := by
        obtain ⟨p, _, _, hp, _⟩ := hs2
        exact ⟨p, hp⟩
      have he3 : ∃ p, h3.get? s.heap.objs.size = some p := by
        obtain ⟨p, _, _, hp, _⟩ := hd3
        exact ⟨p, hp⟩
      have J5 := d_write (t' := s2.toks) J4 (by rw [e3]; exact True.intro) hb2 he2 (dk_new (kvs := [(k', z)]) (show 1 ≤ sizeLine by decide) eS rk hs2)
      have e5 : (upd H3 h1.objs.size (.dK [(k', z)])) s.heap.objs.size = some (.dK kvs) := by rw [upd_ne ne]; exact e4
      have J6 := d_write (ob := .dK (putK kvs k' z)) (t' := s2.toks + ws.length) J5 (by rw [e5]; exact True.intro) hb3 he3 (dk_new (by have := length_putK kvs k' z; omega) dS (by
        cases rk with
        | cons p _ => exact r2.put k' p.2) hd3)
      exact ⟨.ref s.heap.objs.size, _, J6, rfl, q2⟩

/-! ### raise X(..) from e, e the error that is handled -/
section
open HotX
/-- the heap behind «from e»: field 3 is e, field 4 is True -/
def refFrom (h : Heap) (a x2 : Addr) : Heap := (h.update a (Obj.mapFields (·.setIfInBounds 3 (.ref x2)))).update a (Obj.mapFields (·.setIfInBounds 4 (.bool true)))
theorem refFrom_at {h : Heap} {a x2 : Addr} {oe : Obj} {vs : Array Value} (ha : h.get? a = some oe) (hd : oe.data = .fields vs) :
    (refFrom h a x2).get? a = some ((oe.mapFields (·.setIfInBounds 3 (.ref x2))).mapFields (·.setIfInBounds 4 (.bool true))) ∧ ((oe.mapFields (·.setIfInBounds 3 (.ref x2))).mapFields (·.setIfInBounds 4 (.bool true))).data = .fields ((vs.setIfInBounds 3 (.ref x2)).setIfInBounds 4 (.bool true)) := by
  have d3 := Obj.data_mapFields hd (·.setIfInBounds 3 (.ref x2))
  have a3 := Heap.get?_update_self (Obj.mapFields (·.setIfInBounds 3 (.ref x2))) ha (Obj.isFreed_of_fields d3)
  have d4 := Obj.data_mapFields d3 (·.setIfInBounds 4 (.bool true))
  exact ⟨Heap.get?_update_self (Obj.mapFields (·.setIfInBounds 4 (.bool true))) a3 (Obj.isFreed_of_fields d4), d4⟩
theorem refFrom_other {h : Heap} {a b x2 : Addr} (ne : a ≠ b) : (refFrom h a x2).get? b = h.get? b := by
  unfold refFrom
  rw [Heap.get?_update_other _ _ ne, Heap.get?_update_other _ _ ne]
theorem raise_refW {prog : Program} {w : World} {A : Around} {E : Value → Shared → Prop} {env : Env} {s : Shared} {x c : Sem Value} {Q : Flow → Shared → Prop} {x1 : Addr}
    (h : wpAny (model prog w) A x (fun v s1 => ∃ a, v = .ref a ∧ wpAny (model prog w) A c (fun cv s2 => ∃ oe vs cls x2 o2 vs2, cv = .ref x2 ∧ s2.heap.get? a = some oe ∧ oe.cls = cls ∧ oe.data = .fields vs ∧ vs[1]? = some .none ∧ 4 < vs.size ∧ x1 ≠ a ∧ HotAt A x1 s2.heap ∧
      PySem.W.Looks (model prog w) s2.heap (isSubtype cls (.type "BaseException")) true ∧ PySem.W.Looks (model prog w) (refFrom s2.heap a x2) (typeOf cls) (.type "type") ∧
      s2.heap.get? x2 = some o2 ∧ o2.data = .fields vs2 ∧ PySem.W.Looks (model prog w) s2.heap (isSubtype o2.cls (.type "BaseException")) true ∧
      E (.ref a) { s2 with heap := (refFrom s2.heap a x2).update a (Obj.mapFields (·.setIfInBounds 2 (.ref x1))) }) E s1) E s) :
    wpAny (model prog w) A (raiseStmt env (some x) (some c)) Q E s := by
  unfold raiseStmt
  dsimp only
  refine wpAny_bind (wpAny_mono h (fun v s0 h0 => ?_) fun _ _ x => x)
  obtain ⟨a, rfl, hc⟩ := h0
  refine wpAny_bind (wpAny_holding (wpAny_mono hc (fun cv s1 z => ?_) fun _ _ x => x))
  obtain ⟨oe, vs, cls, x2, o2, vs2, rfl, ha, hcls, hd, h1, hi, hne, hot, L1, L3, h2, d2, L2', hE⟩ := z
  have nt : ∀ {b : Addr} {o : Obj} {us : Array Value} {s' : Shared} {Q' : Bool → Shared → Prop}, s'.heap.get? b = some o → o.data = .fields us → Q' false s' → wpAny (model prog w) A (isType (.ref b)) Q' E s' := by
    intro b o us s' Q' hb hdb hq
    simp only [isType, loadHead]
    refine wpAny_bind (wpAny_loadPart hb ?_)
    rw [hdb]; exact wpAny_pure hq
  have LT : PySem.W.Looks (model prog w) s1.heap (typeOf (.ref a)) cls := fun A Q E s k q => wpAny_typeOf_ref (k _ _ ha) (by rw [hcls]; exact q)
  have LI : PySem.W.Looks (model prog w) s1.heap (isInstance (.ref a) (.type "BaseException")) true := LT.andThen L1
  have LT2 : PySem.W.Looks (model prog w) s1.heap (typeOf (.ref x2)) o2.cls := fun A Q E s k q => wpAny_typeOf_ref (k _ _ h2) q
  have LI2 : PySem.W.Looks (model prog w) s1.heap (isInstance (.ref x2) (.type "BaseException")) true := LT2.andThen L2'
  have d3 := Obj.data_mapFields hd (·.setIfInBounds 3 (.ref x2))
  have a3 := Heap.get?_update_self (Obj.mapFields (·.setIfInBounds 3 (.ref x2))) ha (Obj.isFreed_of_fields d3)
  obtain ⟨ha4, hd4⟩ := refFrom_at (x2 := x2) ha hd
  have s3 : 3 < vs.size := by omega
  have s4 : 4 < (vs.setIfInBounds 3 (.ref x2)).size := by rw [set_size]; exact hi
  have s2 : 2 < ((vs.setIfInBounds 3 (.ref x2)).setIfInBounds 4 (Value.bool true)).size := by rw [set_size, set_size]; omega
  have h14 : ((vs.setIfInBounds 3 (.ref x2)).setIfInBounds 4 (Value.bool true))[1]? = some Value.none := set_other (by decide) (set_other (by decide) h1)
  have hcls4 : ((oe.mapFields (·.setIfInBounds 3 (.ref x2))).mapFields (·.setIfInBounds 4 (.bool true))).cls = cls := by rw [Obj.cls_mapFields, Obj.cls_mapFields]; exact hcls
  have LT4 : PySem.W.Looks (model prog w) (refFrom s1.heap a x2) (typeOf (.ref a)) cls := fun A Q E s k q => wpAny_typeOf_ref (k _ _ ha4) (by rw [hcls4]; exact q)
  have hot4 : HotAt A x1 (refFrom s1.heap a x2) := by
    obtain ⟨q1, o, vs', q2, q3, q4⟩ := hot
    exact ⟨q1, o, vs', by rw [refFrom_other (Ne.symm hne)]; exact q2, q3, q4⟩
  refine wpAny_bind (wpAny_pure ?_)
  dsimp only
  refine wpAny_bind (wpAny_holding ?_)
  unfold excFromValue isExcClass
  refine wpAny_bind (wpAny_bind (nt ha hd ?_))
  simp only [Bool.false_eq_true, if_false]
  refine wpAny_pure ?_
  simp only [Bool.false_eq_true, if_false]
  refine wpAny_bind (LI.here ?_)
  simp only [if_true]
  refine wpAny_pure ?_
  rw [if_neg (show ¬ ((Value.ref x2 == Value.none) = true) by simp)]
  refine wpAny_bind (wpAny_holding (wpAny_bind (wpAny_bind (nt h2 d2 ?_))))
  simp only [Bool.false_eq_true, if_false]
  refine wpAny_pure ?_
  simp only [Bool.false_eq_true, if_false]
  refine wpAny_bind (LI2.here ?_)
  simp only [if_true]
  refine wpAny_pure ?_
  refine wpAny_bind (wpAny_setField ha hd s3 (wpAny_bind (wpAny_setField a3 d3 s4 ?_)))
  show wpAny _ _ _ _ _ { s1 with heap := refFrom s1.heap a x2 }
  refine wpAny_bind (nt ha4 hd4 ?_)
  simp only [Bool.false_eq_true, if_false]
  unfold raisedInstance
  refine wpAny_bind (wpAny_bind (LT4.here (wpAny_bind (L3.here ?_))))
  rw [if_pos (beq_self_eq_true _)]
  refine wpAny_pure ?_
  unfold setFlight
  refine wpAny_bind (wpAny_bind (wpAny_field ha4 hd4 h14 ?_))
  rw [if_neg (by decide)]
  refine wpAny_pure ?_
  exact raiseNew_hot hot4 hne ha4 hd4 s2 hE
open L2H
/-- a name read, the state as it stands -/
theorem var_eval {X : Cx} {pins : List (Addr × Obj)} {σ : L2.St} {H : Hp} {s : Shared} {E : Value → Shared → Prop} {i : Nat} {x : Str} {b : Addr} {pos : Pos} {Q : Value → Shared → Prop} (I : Inv X pins σ H s) (hN : X.N[i]? = some x) (hv : Vis X.env.scope x) (hs : σ[i]? = some (some (.ref b))) (h : Q (.ref b) s)
    (hd : (x == ("__debug__" : Str)) = false := by decide) (hcd : (x == ("__classdict__" : Str)) = false := by decide) : wpAny (model X.prog X.w) X.A (eval (.Name x pos) X.env) Q E s := by
  obtain ⟨m, hn, hl⟩ := I.loc
  obtain ⟨u, r, l⟩ := hl i x _ hN hs hv
  obtain rfl : u = Value.ref b := r
  rcases l with ⟨hk, hm⟩ | ⟨hk, c, hc, hcell⟩
  · exact wpAny_Name (wpAny_loadName_local I.ok.kind hk hn hm h) hd
  · rcases hk with hk | hk
    · exact wpAny_Name (wpAny_loadName_cell I.ok.kind hk hc hcell h) hd
    · exact wpAny_Name (wpAny_loadName_free I.ok.kind hk hc hcell h hcd) hd
/-- raise X(..) from e, e the name of the clause -/
theorem ps_raiseHP {X : Cx} {W : WX} {e : Expr} {t : L2.St → Hp → XK → Prop} {i : Nat} {x : Str} {cpos pos : Pos} {p : Addr × Obj} {cls0 : Value} (hot : Hot1 X.A p) (hp : p ∈ X.pn) (hz0 : p.2.cls = cls0) (tk : L2.Takes X W) (he : PMk5 X e t) (hN : X.N[i]? = some x) (hv : Vis X.env.scope x)
    (hdb : (x == ("__debug__" : Str)) = false := by decide) (hcd : (x == ("__classdict__" : Str)) = false := by decide) :
    PS X (.Raise (some e) (some (.Name x cpos)) pos) (fun _ σ H => t σ H fun cls d H' => σ[i]? = some (some (.ref p.1)) ∧ PySem.W.subIn X.K cls0 (.type "BaseException") = some true ∧ W cls d σ H') := by
  refine ⟨fun pins s σ H D I h => ?_⟩
  obtain ⟨hh, v1, e1, c1⟩ := hot
  show wpAny _ _ (do standAt pos; raiseStmt X.env (some (do let v ← eval e X.env; standAt pos; pure v)) (some (do let v ← eval (.Name x cpos) X.env; standAt pos; pure v))) _ _ _
  refine wpAny_bind (wpAny_standAt (raise_refW (x1 := p.1) (wpAny_bind (wpAny_mono (he pins s σ H _ I h) (fun u s1 hu => wpAny_bind (wpAny_standAt (wpAny_pure ?_))) fun _ _ x => x))))
  obtain ⟨⟨a, oe, vs, sI, H', cls, d, rfl, J, k, hne, ha, hz, hd, h1, na, os, ag, r, hb, ec, q⟩, h5⟩ := hu
  have J1 := J.kept (t' := s1.toks) (h' := s1.heap) k
  have J2 : Inv X pins σ H' s1 := ⟨J1.ok, os.trans J.os, ag, J1.base, J1.loc, J1.cell, J1.free, J1.freeC, J1.pin, J1.hok, J1.len⟩
  refine ⟨a, rfl, wpAny_bind (var_eval J2 hN hv hb (wpAny_bind (wpAny_standAt (wpAny_pure ?_))) hdb hcd)⟩
  have hi : 4 < vs.size := h5 a oe vs rfl ha hd
  have k4 : ∀ c u, sI.heap.get? c = some u → (refFrom s1.heap a p.1).get? c = some u := fun c u z => by
    have nab : a ≠ c := fun y => by
      rw [← y, hne] at z
      cases z
    rw [refFrom_other nab]
    exact k c u z
  obtain ⟨r1, _⟩ := r (model X.prog X.w) s1.heap (J.kIn.keeps k)
  obtain ⟨_, r2⟩ := r (model X.prog X.w) (refFrom s1.heap a p.1) (J.kIn.keeps k4)
  have P1 := (J.pin p (List.mem_append_left _ hp)).1
  have nap : p.1 ≠ a := fun z => by
    rw [z, hne] at P1
    cases P1
  obtain ⟨ha4, hd4⟩ := refFrom_at (x2 := p.1) ha hd
  have h12 : (((vs.setIfInBounds 3 (.ref p.1)).setIfInBounds 4 (Value.bool true)).setIfInBounds 2 (Value.ref p.1))[1]? = some Value.none := set_other (by decide) (set_other (by decide) (set_other (by decide) h1))
  have LB : PySem.W.Looks (model X.prog X.w) s1.heap (isSubtype p.2.cls (.type "BaseException")) true := by
    rw [hz0]
    exact PySem.W.looks_subIn J2.kIn ec
  refine ⟨oe, vs, cls, p.1, p.2, v1, rfl, ha, hz.1, hd, h1, hi, nap, ⟨hh, p.2, v1, k _ _ P1, e1, c1⟩, r1, r2, k _ _ P1, e1, LB, tk _ _ (XE.new J (fun c u z => ?_) hne (Heap.get?_update_self _ ha4 (Obj.isFreed_of_fields (Obj.data_mapFields hd4 _)))
    ⟨by rw [Obj.cls_mapFields, Obj.cls_mapFields, Obj.cls_mapFields]; exact hz.1, by rw [HandSPX.dict_mapFields, HandSPX.dict_mapFields, HandSPX.dict_mapFields]; exact hz.2.1⟩ (Obj.data_mapFields hd4 _) h12 na os ag q)⟩
  have nab : a ≠ c := fun y => by
    rw [← y, hne] at z
    cases z
  show ((refFrom s1.heap a p.1).update a (Obj.mapFields (·.setIfInBounds 2 (.ref p.1)))).get? c = some u
  rw [Heap.get?_update_other _ _ nab]
  exact k4 c u z
end

/-! ### x[k] and x[k] = v, x an instance with __getitem__ and __setitem__ of its own -/
section
variable {X : Cx} {CX : CXT} {k : Nat} {f C : Addr} {fd : FuncData} {ps : List Str} {sp : Sp} {E : XK}
def rIxO (C : Addr) (sp : Sp) (E : XK) : R2 := fun x y H Q => ∃ (a dx : Addr) (fs : List (Str × V)), x = .ref a ∧ H a = some (.ins C dx fs) ∧ sp [.ref a, y] H Q E
theorem pe_ixO {a b : Expr} {ta tb : TE} {pos : Pos} (F : FnOk X.prog X.w X.K X.mg X.base CX k f fd ps sp) (hr : Room (k + 1) X.A) (hb : Binds X.K fd ps []) (hx : Passes CX X E) (hs : PySem.W.findIn X.K (.ref C) "__getitem__" = some (some (.ref f))) (hf : PySem.W.fnIn X.K f = true) (hfn : PySem.W.isFn X.K (.ref f) = true)
    (ha : PE X a ta) (hi : PE X b tb) (hsl : ∀ o i, subscripted b true o i = runValue (.builtin "lifetime.subscript" ⟨[o, i], []⟩) := by intros; rfl) : PE X (.Subscript a b pos) (tOp (rIxO C sp E) ta tb) := by
  refine ⟨fun pins s σ H Q I h => PyProof.Rows.Subscript_ (thn (ha.run pins s σ H _ I h) fun v s1 z => ?_)⟩
  obtain ⟨x, H1, I1, rx, h1⟩ := z
  refine thn (hi.run pins s1 σ H1 _ I1 h1) fun u s2 z => ?_
  obtain ⟨y, H2, I2, ry, q, dx, fs, rfl, ea, h2⟩ := z
  obtain rfl : v = Value.ref q := rx
  obtain ⟨o, od, J⟩ := ins_at I2 ea
  obtain ⟨m, hF⟩ := I2.fr
  exact PySem.W.sub_K hF I2.ok.mod.kin J hs hf hfn (run_fn1 (us := [.ref q, u]) (vs := [.ref q, y]) F hr hb hx I2 (.cons rfl (.cons ry .nil)) h2) (hsl _ _)
def rSetO (C : Addr) (sp : Sp) (E : XK) : V → V → V → Hp → (Hp → Prop) → Prop := fun o i v H Q => ∃ (a dx : Addr) (fs : List (Str × V)), o = .ref a ∧ H a = some (.ins C dx fs) ∧ sp [.ref a, i, v] H (fun _ H' => Q H') E
theorem set_ownO (F : FnOk X.prog X.w X.K X.mg X.base CX k f fd ps sp) (hr : Room k X.A) (hb : Binds X.K fd ps []) (hx : Passes CX X E) (hq : PySem.W.noSeq X.K C = true) (hs : PySem.W.findIn X.K (.ref C) "__setitem__" = some (some (.ref f))) (hf : PySem.W.isFn X.K (.ref f) = true) : PSet X (rSetO C sp E) := by
  intro pins s σ H o i v ov iv u Q I ro ri rv h
  obtain ⟨a, dx, fs, rfl, ea, h2⟩ := h
  obtain rfl : ov = Value.ref a := ro
  obtain ⟨oo, od, J⟩ := ins_at I ea
  have XK := I.kIn
  unfold setItem sequenceKey
  refine wpAny_holding (wpAny_bind (wpAny_bind (J.type.here ?_)))
  refine wpAny_bind ((PySem.W.anyM_none XK hq).here ?_)
  rw [if_pos (show (!false) = true from rfl)]
  refine wpAny_pure (wpAny_bind (PySem.W.special_fn XK J hs (beq_iff_eq.mp hf) (wpAny_mono (run_fn (us := [.ref a, iv, u]) (vs := [.ref a, i, v]) F hr hb .nil hx I (.cons rfl (.cons ri (.cons rv .nil))) h2) (fun r s1 z => ?_) fun _ _ z => z)))
  obtain ⟨w, H1, I1, rw1, q⟩ := z
  exact wpAny_pure ⟨H1, I1, q⟩
end

/-! ### a state without some objects that nothing of ours is -/
section
variable {X : Cx} {pins : List (Addr × Obj)} {σ : L2.St} {H : Hp} {s : Shared}
/-- a is none of ours -/
structure Alien (X : Cx) (pins : List (Addr × Obj)) (H : Hp) (a : Addr) : Prop where
  un : H a = Option.none
  s0 : X.s_0.heap.get? a = Option.none
  loc : a ≠ X.env.locals
  cell : ∀ x c, X.env.cells.lookup x = some c → c ≠ a
  pin : ∀ p ∈ X.pn ++ pins, p.1 ≠ a
theorem Inv.hide {l : List Addr} (I : Inv X pins σ H s) (hl : ∀ a ∈ l, Alien X pins H a) : Inv X pins σ H { s with heap := PySem.W.hideAll s.heap l } := by
  have kp : ∀ {b o}, b ∉ l → s.heap.get? b = some o → (PySem.W.hideAll s.heap l).get? b = some o := fun nb e => PySem.W.hideAll_get _ e nb
  have n0 : ∀ {b o}, X.s_0.heap.get? b = some o → b ∉ l := fun e hb => by rw [(hl _ hb).s0] at e; cases e
  have nH : ∀ {b o}, H b = some o → b ∉ l := fun e hb => by rw [(hl _ hb).un] at e; cases e
  have nL : X.env.locals ∉ l := fun hb => (hl _ hb).loc rfl
  have nC : ∀ {x c}, X.env.cells.lookup x = some c → c ∉ l := fun e hb => (hl _ hb).cell _ _ e rfl
  refine ⟨I.ok, I.os, I.bare, ⟨fun b o e n hb hx => kp (n0 e) (I.base.keep b o e n hb hx), fun b o e n hb hx => ?_, I.base.free, fun b o e hx => ?_, I.base.tups, I.base.frzs, I.base.tbls⟩, ?_, fun x c e => ?_, I.free, I.freeC, fun p hp => ?_, fun b o e => ?_, I.len⟩
  · obtain ⟨sl, z⟩ := I.base.slot b o e n hb hx
    exact ⟨sl, kp (n0 e) z⟩
  · obtain ⟨o', z⟩ := I.base.there b o e hx
    exact ⟨o', kp (n0 e) z⟩
  · obtain ⟨m, ⟨oo, es, ep, ho, r⟩, hlk⟩ := I.loc
    refine ⟨m, ⟨oo, es, ep, kp nL ho, r⟩, fun i x v e1 e2 e3 => ?_⟩
    obtain ⟨u, rv, q⟩ := hlk i x v e1 e2 e3
    refine ⟨u, rv, ?_⟩
    rcases q with ⟨k1, k2⟩ | ⟨k1, c, k2, oc, k3, k4⟩
    · exact .inl ⟨k1, k2⟩
    · exact .inr ⟨k1, c, k2, oc, kp (nC k2) k3, k4⟩
  · obtain ⟨v, oc, k3, k4⟩ := I.cell x c e
    exact ⟨v, oc, kp (nC e) k3, k4⟩
  · obtain ⟨p1, p2⟩ := I.pin p hp
    exact ⟨kp (fun hb => (hl _ hb).pin p hp rfl) p1, p2⟩
  · refine (I.hok b o e).stay (fun d u hd q => kp ?_ q) (fun _ z => z) fun _ _ z => z
    rcases hd with rfl | hd
    · exact nH e
    · exact nH hd
end

/-- an error with its record, held by this frame: it is in the air of X, whatever has become of the names since; and so behind what changes slots and records alone -/
theorem held_of {X : Cx} {W : WX} {pins : List (Addr × Obj)} {σ : L2.St} {H : Hp} {s : Shared} {a t : Addr} {oe oT : Obj} {vs ts : Array Value} {cls : Value} {d : Option Addr} (J : Inv X pins σ H s) (ha : s.heap.get? a = some oe) (hz : Zc cls d oe) (hd : oe.data = .fields vs) (h1 : vs[1]? = some (.ref t)) (ne : t ≠ a)
    (ht : s.heap.get? t = some oT) (hdt : oT.data = .fields ts) (h3 : ts[3]? = some (rawInt X.env.locals)) (la : Alien X pins H a) (lt : Alien X pins H t) (w : W cls d σ H) :
    ∃ B, HandSPX.HeldZ B X.stack a (Zc cls d) X.env.locals s.heap ∧ ∀ h', HandSPX.HeldZ B X.stack a (Zc cls d) X.env.locals h' → s.heap.UpToSlots h' → XE X W (.ref a) { s with heap := h' } := by
  have I := Inv.hide (l := [a, t]) J fun b hb => by
    simp only [List.mem_cons, List.not_mem_nil, or_false] at hb
    rcases hb with rfl | rfl
    · exact la
    · exact lt
  have k : ∀ b o, (PySem.W.hideAll s.heap [a, t]).get? b = some o → s.heap.get? b = some o := fun b o e => PySem.W.of_hideAll _ e
  have no : ∀ b ∈ [a, t], (PySem.W.hideAll (PySem.W.hideAll s.heap [a, t]) (frs X.stack)).get? b = Option.none := fun b hb => by
    cases q : (PySem.W.hideAll (PySem.W.hideAll s.heap [a, t]) (frs X.stack)).get? b with
    | none => rfl
    | some o =>
      have z := PySem.W.of_hideAll _ q
      rw [PySem.W.hideAll_none _ hb] at z
      cases z
  refine ⟨PySem.W.hideAll (PySem.W.hideAll s.heap [a, t]) (frs X.stack), ⟨fun b o e => k b o (PySem.W.of_hideAll _ e), no a (by simp), ?_, oe, vs, t, oT, ts, ha, hz, hd, h1, no t (by simp), ne, ht, hdt, h3⟩, fun h' hh up => ?_⟩
  · exact Heap.FunFrames.of_keeps (fun b o e _ => ⟨o, k b o e, rfl⟩) (funFrames_none I.stack fun b hb => PySem.W.hideAll_none _ hb)
  · exact ⟨a, _, { s with heap := PySem.W.hideAll s.heap [a, t] }, pins, σ, H, cls, d, rfl, I, fun b o e hb => PySem.W.hideAll_get _ e hb, (Heap.UpToSlots.of_keeps k).trans up, .inr (.inr hh), la.un, rfl, J.bare, w⟩
theorem xe_held {X : Cx} {W : WX} {pins : List (Addr × Obj)} {σ : L2.St} {H : Hp} {s : Shared} {a t : Addr} {oe oT : Obj} {vs ts : Array Value} {cls : Value} {d : Option Addr} (J : Inv X pins σ H s) (ha : s.heap.get? a = some oe) (hz : Zc cls d oe) (hd : oe.data = .fields vs) (h1 : vs[1]? = some (.ref t)) (ne : t ≠ a)
    (ht : s.heap.get? t = some oT) (hdt : oT.data = .fields ts) (h3 : ts[3]? = some (rawInt X.env.locals)) (la : Alien X pins H a) (lt : Alien X pins H t) (w : W cls d σ H) : XE X W (.ref a) s := by
  obtain ⟨B, hh, k⟩ := held_of J ha hz hd h1 ne ht hdt h3 la lt w
  exact k s.heap hh (Heap.UpToSlots.refl _)
/-- .. and passed on -/
theorem pass_held {X : Cx} {W : WX} {pins : List (Addr × Obj)} {σ : L2.St} {H : Hp} {s : Shared} {A : Around} {R : Value → Shared → Prop} {a t : Addr} {oe oT : Obj} {vs ts : Array Value} {cls : Value} {d : Option Addr} {what : String} (J : Inv X pins σ H s) (hf : X.env.frame = some X.env.locals) (ha : s.heap.get? a = some oe) (hz : Zc cls d oe) (hd : oe.data = .fields vs) (h1 : vs[1]? = some (.ref t)) (ne : t ≠ a)
    (ht : s.heap.get? t = some oT) (hdt : oT.data = .fields ts) (h3 : ts[3]? = some (rawInt X.env.locals)) (la : Alien X pins H a) (lt : Alien X pins H t) (w : W cls d σ H) (h : ∀ s', XE X W (.ref a) s' → R (.ref a) s') :
    wpAny (model X.prog X.w) A (PySem.passOn what (.ref a) X.env : Sem Flow) (fun _ _ => False) R s := by
  obtain ⟨B, hh, k⟩ := held_of J ha hz hd h1 ne ht hdt h3 la lt w
  unfold PySem.passOn
  refine wpAny_bind (wpAny_field ha hd h1 ?_)
  rw [if_neg (show ¬ ((Value.ref t == Value.none) = true) from by simp)]
  have fin : wpAny (model X.prog X.w) A (setFlight (.ref a) X.env.frame) (fun _ s4 => wpAny (model X.prog X.w) A (throw (.ref a) : Sem Flow) (fun _ _ => False) R s4) R s := by
    rw [hf]
    obtain ⟨f1, f2, f3, f4⟩ := hh
    exact HandSPX.setFlight_anyZ f1 f3 f4 fun h' k1 k2 k3 k4 => wpAny_throw (h _ (k h' ⟨k1, f2, k2, k3⟩ k4))
  first
    | exact wpAny_bind (wpAny_pure (wpAny_bind fin))
    | exact wpAny_bind fin

/-- an error comes out of an except suite with a name: the name goes, the error is in the air of the def -/
theorem suite_off {X : Cx} {W W' : WX} {pins : List (Addr × Obj)} {s : Shared} {A : Around} {E1 E2 R : Value → Shared → Prop} {i : Nat} {n : Str} {pos : Pos} {what : String} {a : Addr} {q : Addr × Obj} {u : Value} (hs : X.stack = X.env :: X.outer) (hf : X.env.frame = some X.env.locals) (hex : X.ex = []) (hN : X.N.Nodup) (hi : X.N[i]? = some n) (hln : X.env.kindOf n = some .local) (ok : X.Ok)
    (hfr : A.frames = some (X.env :: X.outer)) (x : XE (L2H.suiteX X a (q :: (X.pn ++ pins))) W u s) (hW : ∀ cls d σ H, W cls d σ H → W' cls d (σ.set i Option.none) H) (hR : ∀ s', XE X W' u s' → R u s') :
    wpAny (model X.prog X.w) A (noteFrame u X.env) (fun _ s1 => wpAny (model X.prog X.w) A (do bindName X.env n .none; unbindBehindTheSuite X.env n pos) (fun _ s2 => wpAny (model X.prog X.w) A (PySem.passOn what u X.env : Sem Flow) (fun _ _ => False) R s2) E1 s1) E2 s := by
  obtain ⟨e, B, sI, pins2, σ, H, cls, d, rfl, I2, nb, up, sky, na, os, ag, w⟩ := x
  have J : Inv X pins σ H sI := L2H.unsuiteX I2 ok
  have sky' : Sky B (X.env :: X.outer) e (Zc cls d) X.env.locals s.heap := by rw [← hs]; exact sky
  have fin : ∀ h1, HandSPX.HeldZ B (X.env :: X.outer) e (Zc cls d) X.env.locals h1 → s.heap.UpToSlots h1 → wpAny (model X.prog X.w) A (do bindName X.env n .none; unbindBehindTheSuite X.env n pos) (fun _ s2 => wpAny (model X.prog X.w) A (PySem.passOn what (.ref e) X.env : Sem Flow) (fun _ _ => False) R s2) E1 { s with heap := h1 } := by
    intro h1 hh up1
    have J3 : Inv X pins σ H { s with heap := h1 } := J.landed nb hh.1 (up.trans up1) os ag
    obtain ⟨k1, k2, k3, oe, vs, T, oT, ts, he, hz, hd, h1', bT, neT, hT, hdT, h3⟩ := hh
    have nfr : ∀ {b : Addr} {o : Obj} {us : Array Value}, h1.get? b = some o → o.data = .fields us → b ∉ frs (X.env :: X.outer) := fun eb db hm => by
      obtain ⟨_, o2, e2, nd⟩ := k3.mem hm
      rw [eb] at e2
      cases e2
      exact nd _ db
    have alien : ∀ {b : Addr} {o : Obj} {us : Array Value}, h1.get? b = some o → o.data = .fields us → B.get? b = Option.none → Alien X pins H b ∧ b ∉ X.fs := by
      intro b o us eb db hb
      have nf := nfr eb db
      have nt : sI.heap.get? b = Option.none := by
        match z : sI.heap.get? b with
        | Option.none => rfl
        | some o2 =>
          have z2 := nb b o2 z (by rw [show (L2H.suiteX X a (q :: (X.pn ++ pins))).stack = X.env :: X.outer from hs]; exact nf)
          rw [hb] at z2
          cases z2
      refine ⟨⟨J.hok.gone nt, ?_, fun z => nf (List.mem_filterMap.mpr ⟨X.env, List.mem_cons_self, by rw [hf, z]⟩), fun x c ec z => ?_, fun p hp z => ?_⟩, fun hm => ?_⟩
      · match z : X.s_0.heap.get? b with
        | Option.none => rfl
        | some o2 =>
          obtain ⟨o3, z3⟩ := J.base.there b o2 z (by rw [hex]; exact List.not_mem_nil)
          rw [nt] at z3
          cases z3
      · obtain ⟨v, oc, k4, _⟩ := J.cell x c ec
        rw [z, nt] at k4
        cases k4
      · have z2 := (J.pin p hp).1
        rw [z, nt] at z2
        cases z2
      · obtain ⟨e2, he2, z⟩ := List.mem_filterMap.mp hm
        exact nf (List.mem_filterMap.mpr ⟨e2, List.mem_cons_of_mem _ he2, z⟩)
    obtain ⟨la, fa⟩ := alien he hd k2
    obtain ⟨lt, ft⟩ := alien hT hdT bT
    have J4 : Inv X ((e, oe) :: (T, oT) :: pins) σ H { s with heap := h1 } := ⟨J3.ok, J3.os, J3.bare, J3.base, J3.loc, J3.cell, J3.free, J3.freeC, fun p hp => by
      rcases List.mem_append.mp hp with z | z
      · exact J3.pin p (List.mem_append_left _ z)
      · rcases List.mem_cons.mp z with rfl | z
        · exact ⟨he, la.un, la.loc, fa, fun v z => by rw [hd] at z; cases z⟩
        · rcases List.mem_cons.mp z with rfl | z
          · exact ⟨hT, lt.un, lt.loc, ft, fun v z => by rw [hdT] at z; cases z⟩
          · exact J3.pin p (List.mem_append_right _ z), J3.hok, J3.len⟩
    refine gone_ok J4 hN hi hln fun s7 J7 => ?_
    have ha7 := (J7.pin (e, oe) (List.mem_append_right _ List.mem_cons_self)).1
    have ht7 := (J7.pin (T, oT) (List.mem_append_right _ (List.mem_cons_of_mem _ List.mem_cons_self))).1
    have J8 : Inv X pins (σ.set i Option.none) H s7 := ⟨J7.ok, J7.os, J7.bare, J7.base, J7.loc, J7.cell, J7.free, J7.freeC, fun p hp => J7.pin p (by
      rcases List.mem_append.mp hp with z | z
      · exact List.mem_append_left _ z
      · exact List.mem_append_right _ (List.mem_cons_of_mem _ (List.mem_cons_of_mem _ z))), J7.hok, J7.len⟩
    exact pass_held J8 hf ha7 hz hd h1' neT ht7 hdT h3 la lt (hW _ _ _ _ w) hR
  rcases sky' with ⟨hB, hn, hl, oe, vs, he, hz, hd, h1⟩ | fl | hh
  · exact HandSPX.look_newZ Zc.steady hfr hl hf he hB hn hd h1 hz fin
  · exact HandSPX.looks_onZ Zc.steady hfr hf fl fin
  · exact HandSPX.againZ hf hh.2.2.2 (fin s.heap hh (Heap.UpToSlots.refl _))

/-! ### an except suite with a name that raises -/
/-- what the clause «except x as n» wishes, where its suite raises -/
def wAsX (K : PySem.W.Frag) (c : Value) (i : Nat) (ts : Addr → Value → Option Addr → TS) (Wout : WX) (D : Ends) : WX := fun cls d σ H =>
  ∃ b, PySem.W.exmOne K cls c = some b ∧ (b = true → ∀ a, H a = Option.none → ts a cls d { nx := fun σ1 H1 => D.nx (σ1.set i Option.none) H1, rt := fun _ _ => False } (σ.set i (some (.ref a))) H) ∧ (b = false → Wout cls d σ H)
section
variable {X : Cx} {x n : Str} {c : Value} {i : Nat} {body suite : List Stmt} {b₀ : Stmt} {np pos pos' : Pos} {tb : WX → TS} {ts : Addr → Value → Option Addr → TS} {Wout : WX}
theorem ps_try_asX (hs : X.stack = X.env :: X.outer) (hf : X.env.frame = some X.env.locals) (hex : X.ex = []) (hN : X.N.Nodup) (hi : X.N[i]? = some n) (hln : X.env.kindOf n = some .local) (hc : Names X x c)
    (hpa : ∀ hd : Option Value, PassesOwnAt (model X.prog X.w) (X.A.mark hd) X.A X.env X.xe) (tk : L2.Takes X Wout)
    (hb : ∀ (W : WX) (pn : List (Addr × Obj)) (xe : Value → Shared → Prop), L2N.Takes (X.tr pn xe) W → PassesOwn (model X.prog X.w) X.A X.env xe → PSs (X.tr pn xe) body (tb W))
    (hsu : ∀ (a : Addr) (oe : Obj) (cls : Value) (d : Option Addr) (pn : List (Addr × Obj)) (xe : Value → Shared → Prop), L2N.Zn cls d oe → (∃ vs, oe.data = .fields vs) → L2.Takes ((L2H.suiteX X a ((a, oe) :: pn)).wish xe) (fun cls d σ H => Wout cls d (σ.set i Option.none) H) → L2H.Hot1 (X.A.mark (some (.ref a))) (a, oe) →
      PSs ((L2H.suiteX X a ((a, oe) :: pn)).wish xe) (b₀ :: suite) (ts a cls d)) :
    PS X (.Try body [.ExceptHandler (some (.Name x np)) (some n) (b₀ :: suite) pos'] [] [] pos) (fun D σ H => tb (wAsX X.K c i ts Wout D) D σ H) := by
  refine ⟨fun pins s σ H D I h => ?_⟩
  have ok := I.ok
  have hfr : X.A.frames = some (X.env :: X.outer) := by rw [ok.frames, hs]
  have notFr : ∀ {B h : Heap} {a : Addr} {o : Obj} {vs : Array Value}, h.FunFrames B (X.env :: X.outer) → h.get? a = some o → o.data = .fields vs → a ∉ frs (X.env :: X.outer) := fun {B h a o vs} ff e dd hm => by
    obtain ⟨_, o', e', hnf⟩ := ff.mem hm
    rw [e] at e'; cases e'
    exact hnf _ dd
  have flyOn : ∀ {a : Addr} {B : Heap} {sI s' : Shared} {σ' : L2.St} {H' : Hp} {cls : Value} {d : Option Addr} {h3 : Heap}, Inv X pins σ' H' sI → (∀ b o, sI.heap.get? b = some o → b ∉ frs X.stack → B.get? b = some o) → sI.heap.UpToSlots h3 →
      HandSPX.FlyingZ B (X.env :: X.outer) a (Zc cls d) h3 → H' a = none → s'.os = sI.os → AllBare s'.gens → Wout cls d σ' H' → wpAny (model X.prog X.w) X.A (handleBy (.ref a) X.env []) (SP X pins D) X.xe { s' with heap := h3 } := by
    intro a B sI s' σ' H' cls d h3 J nb up fl3 na os ag w
    refine wpAny_handleBy_nil ?_
    obtain ⟨k1, k2, k3, oe, vs, T, oT, ts', he, hz, hd, h1, hr⟩ := id fl3
    unfold PySem.passOn
    refine wpAny_bind (wpAny_field he hd h1 ?_)
    rw [if_neg (show ¬ ((Value.ref T == Value.none) = true) from by simp)]
    have fin : wpAny (model X.prog X.w) X.A (setFlight (.ref a) X.env.frame) (fun _ s4 => wpAny (model X.prog X.w) X.A (throw (.ref a) : Sem Flow) (SP X pins D) X.xe s4) X.xe { s' with heap := h3 } := by
      rw [hf]
      refine HandSPX.setFlight_upZ fl3 fun h4 hh4 up4 => wpAny_throw (tk _ _ ?_)
      exact ⟨a, B, sI, pins, σ', H', cls, d, rfl, J, nb, up.trans up4, .inr (.inr (by rw [hs]; exact hh4)), na, os, ag, w⟩
    first
      | exact wpAny_bind (wpAny_pure (wpAny_bind fin))
      | exact wpAny_bind fin
  refine wpAny_Try_except ?_
  refine wpAny_mono ((hb (wAsX X.K c i ts Wout D) (X.pn ++ pins) (fun e s₁ => wpAny (model X.prog X.w) X.A (noteFrame e X.env) (fun _ s₂ => wpAny (model X.prog X.w) X.A (setFlight e none) (fun _ s₃ =>
    wpAny (model X.prog X.w) X.A (handleBy e X.env [.ExceptHandler (some (.Name x np)) (some n) (b₀ :: suite) pos']) (SP X pins D) X.xe s₃) X.xe s₂) X.xe s₁) (fun u s' xx => ?_) PassesOwn.looking).run [] s σ H D (I.toTry _) h) (fun f s1 hsp => ?_) (fun e s1 he => he)
  · obtain ⟨a, B, sI, pins', σ', H', cls, d, rfl, J', nb, up, sky, na, os, ag, b, hb1, hyes, hno⟩ := xx
    have J : Inv X pins σ' H' sI := J'.ofTry ok
    have sky' : Sky B (X.env :: X.outer) a (L2N.Zn cls d) X.env.locals s'.heap := by rw [← hs]; exact sky
    show wpAny (model X.prog X.w) X.A (noteFrame (.ref a) X.env) _ _ _
    refine L2N.Sky.land L2N.Zn.steady hfr hf sky' fun h3 fl3 up3 => ?_
    have J3 : Inv X pins σ' H' { s' with heap := h3 } := J.landed nb fl3.1 (up.trans up3) os ag
    obtain ⟨oe3, vs3, he3, hz3, hd3⟩ := fl3.there
    have nfr : a ∉ frs (X.env :: X.outer) := notFr fl3.2.2.1 he3 hd3
    have nL : a ≠ X.env.locals := fun z => nfr (List.mem_filterMap.mpr ⟨X.env, List.mem_cons_self, by rw [hf, z]⟩)
    have nF : a ∉ X.fs := fun hm => by
      obtain ⟨e, he, q⟩ := List.mem_filterMap.mp hm
      exact nfr (List.mem_filterMap.mpr ⟨e, List.mem_cons_of_mem _ he, q⟩)
    have S3 := J3.suite he3 hd3 na nL nF
    refine wpAny_handleBy_cons (codeAny_handlers_test ?_) (by intro q; cases q)
    have LT : PySem.W.Looks (model X.prog X.w) h3 (typeOf (.ref a)) cls := fun A Q E s k q => wpAny_typeOf_ref (k _ _ he3) (by rw [hz3.1]; exact q)
    have LM := PySem.W.exm_one (M := model X.prog X.w) (J3.kIn) LT hb1
    have test : ∀ {Q : Value → Shared → Prop} {E : Value → Shared → Prop}, Q c { s' with heap := h3 } → wpAny (model X.prog X.w) (X.A.mark (some (.ref a))) (eval (.Name x np) X.env) Q E { s' with heap := h3 } := fun {Q E} q => by
      obtain ⟨hg, hdbg, hm | ⟨hm, hv, hnn⟩⟩ := hc
      · exact ld_glob (X := X.suite a ((a, oe3) :: (X.pn ++ pins))) S3 hg hm q hdbg
      · exact ld_blt (X := X.suite a ((a, oe3) :: (X.pn ++ pins))) S3 hg hm hv q hnn hdbg
    refine test (LM.here ?_)
    cases b with
    | true =>
      refine codeAny_handlers_suite_as ?_
      refine HandSPX.lands_againZ fl3 fun h4 fl4 up4 => ?_
      have J4 : Inv X pins σ' H' { s' with heap := h4 } := J.landed nb fl4.1 ((up.trans up3).trans up4) os ag
      obtain ⟨oe4, vs4, he4, hz4, hd4⟩ := fl4.there
      have S4 := J4.suite he4 hd4 na nL nF
      refine store_ok (X := X.suite a ((a, oe4) :: (X.pn ++ pins))) (v := .ref a) S4 hN hi (.inl hln) rfl (fun s5 S5 => ?_) (.inr hln)
      have hot : L2H.Hot1 (X.A.mark (some (.ref a))) (a, oe4) := ⟨rfl, vs4, hd4, hz4.2.2 vs4 hd4⟩
      refine wpAny_mono ((hsu a oe4 cls d (X.pn ++ pins) (XE (L2H.suiteX X a ((a, oe4) :: (X.pn ++ pins))) (fun cls d σ H => Wout cls d (σ.set i Option.none) H)) hz4 ⟨_, hd4⟩ (fun u2 s2 x2 => ?_) hot).run [] s5 _ H' _ ((L2H.suiteX_of S5).wish _) (hyes rfl a na)) (fun f s6 hsp => ?_) (fun e6 s6 z => ?_)
      · obtain ⟨a2, B2, sI2, pn2, σ2, H2, cls2, d2, e2, I2, nb2, up2, sky2, na2, os2, ag2, w2⟩ := x2
        exact ⟨a2, B2, sI2, pn2, σ2, H2, cls2, d2, e2, I2.unwish, nb2, up2, sky2, na2, os2, ag2, w2⟩
      · match f, hsp with
        | .next, ⟨σ6, H6, S6, q6⟩ => exact gone_ok (L2H.unsuiteX S6.unwish ok) hN hi hln fun s7 J7 => ⟨_, _, J7, q6⟩
        | .ret u, ⟨_, _, _, _, _, z⟩ => exact z.elim
        | .brk, ⟨_, _, _, z⟩ => exact z.elim
        | .cont, ⟨_, _, _, z⟩ => exact z.elim
      · exact suite_off (W' := Wout) hs hf hex hN hi hln ok hfr z (fun _ _ _ _ w => w) fun s7 x7 => hpa (some (.ref a)) _ s7 (tk _ _ x7)
    | false =>
    refine ?_
    show wpAny _ X.A (handleBy (.ref a) X.env []) _ _ _
    exact flyOn J nb (up.trans up3) ⟨fl3.1, fl3.2.1, fl3.2.2.1, by
      obtain ⟨oe, vs, T, oT, ts', he, hz, hd, h1, hr⟩ := fl3.2.2.2
      exact ⟨oe, vs, T, oT, ts', he, hz.zc, hd, h1, hr⟩⟩ na os ag (hno rfl)
  · cases f with
    | next =>
      obtain ⟨σ', H', J', q⟩ := hsp
      exact wpAny_execs_nil ⟨σ', H', J'.ofTry ok, q⟩
    | brk =>
      obtain ⟨σ', H', J', q⟩ := hsp
      exact ⟨σ', H', J'.ofTry ok, q⟩
    | cont =>
      obtain ⟨σ', H', J', q⟩ := hsp
      exact ⟨σ', H', J'.ofTry ok, q⟩
    | ret u =>
      obtain ⟨v, σ', H', J', r, q⟩ := hsp
      exact ⟨v, σ', H', J'.ofTry ok, r, q⟩
end


end
/-- what the top has written -/
structure Txt (K : PySem.W.Frag) (mg : Str → Option Value) where
  a_Wheel : Addr
  a_Exact : Addr
  a_Grid : Addr
  a_Shelf : Addr
  m_Wheel : mg "Wheel" = some (.ref a_Wheel)
  m_Exact : mg "Exact" = some (.ref a_Exact)
  m_Grid : mg "Grid" = some (.ref a_Grid)
  m_Shelf : mg "Shelf" = some (.ref a_Shelf)
  a_is_whole : Addr
  fd_is_whole : FuncData
  F_is_whole : Fun K "is_whole" "is_whole" s_is_whole a_is_whole fd_is_whole
  m_is_whole : mg "is_whole" = some (.ref a_is_whole)
  a_is_between : Addr
  fd_is_between : FuncData
  F_is_between : Fun K "is_between" "is_between" s_is_between a_is_between fd_is_between
  m_is_between : mg "is_between" = some (.ref a_is_between)
  a_is_name : Addr
  fd_is_name : FuncData
  F_is_name : Fun K "is_name" "is_name" s_is_name a_is_name fd_is_name
  m_is_name : mg "is_name" = some (.ref a_is_name)
  a_need_part : Addr
  fd_need_part : FuncData
  F_need_part : Fun K "need_part" "need_part" s_need_part a_need_part fd_need_part
  m_need_part : mg "need_part" = some (.ref a_need_part)
  a_with_item : Addr
  fd_with_item : FuncData
  F_with_item : Fun K "with_item" "with_item" s_with_item a_with_item fd_with_item
  m_with_item : mg "with_item" = some (.ref a_with_item)
  a_with_row : Addr
  fd_with_row : FuncData
  F_with_row : Fun K "with_row" "with_row" s_with_row a_with_row fd_with_row
  m_with_row : mg "with_row" = some (.ref a_with_row)
  a_pen : Addr
  fd_pen : FuncData
  F_pen : Fun K "_law_pen" "_law_pen" s_pen a_pen fd_pen
  m_pen : mg "_law_pen" = some (.ref a_pen)
  a_draw : Addr
  fd_draw : FuncData
  F_draw : Fun K "_law_draw" "_law_draw" s_draw a_draw fd_draw
  m_draw : mg "_law_draw" = some (.ref a_draw)
  a_pick : Addr
  fd_pick : FuncData
  F_pick : Fun K "_law_pick" "_law_pick" s_pick a_pick fd_pick
  m_pick : mg "_law_pick" = some (.ref a_pick)
  a_name : Addr
  fd_name : FuncData
  F_name : Fun K "_law_name" "_law_name" s_name a_name fd_name
  m_name : mg "_law_name" = some (.ref a_name)
  a_state : Addr
  fd_state : FuncData
  F_state : Fun K "_law_state" "_law_state" s_state a_state fd_state
  m_state : mg "_law_state" = some (.ref a_state)
  a_with : Addr
  fd_with : FuncData
  F_with : Fun K "_law_with" "_law_with" s_with a_with fd_with
  m_with : mg "_law_with" = some (.ref a_with)
  a_stock : Addr
  fd_stock : FuncData
  F_stock : Fun K "_law_stock" "_law_stock" s_stock a_stock fd_stock
  m_stock : mg "_law_stock" = some (.ref a_stock)
  a_row : Addr
  fd_row : FuncData
  F_row : Fun K "_law_row" "_law_row" s_row a_row fd_row
  m_row : mg "_law_row" = some (.ref a_row)
  a_bad : Addr
  fd_bad : FuncData
  F_bad : Fun K "_law_bad" "_law_bad" s_bad a_bad fd_bad
  m_bad : mg "_law_bad" = some (.ref a_bad)
  a_first_bad : Addr
  fd_first_bad : FuncData
  F_first_bad : Fun K "_law_first_bad" "_law_first_bad" s_first_bad a_first_bad fd_first_bad
  m_first_bad : mg "_law_first_bad" = some (.ref a_first_bad)
  a_right : Addr
  fd_right : FuncData
  F_right : Fun K "_law_right" "_law_right" s_right a_right fd_right
  m_right : mg "_law_right" = some (.ref a_right)
  a_law : Addr
  fd_law : FuncData
  F_law : Fun K "law" "law" s_law a_law fd_law
  m_law : mg "law" = some (.ref a_law)
  a_BadWheel_init : Addr
  fd_BadWheel_init : FuncData
  F_BadWheel_init : Fun K "__init__" "BadWheel.__init__" s_BadWheel_init a_BadWheel_init fd_BadWheel_init
  a_BadShelf_init : Addr
  fd_BadShelf_init : FuncData
  F_BadShelf_init : Fun K "__init__" "BadShelf.__init__" s_BadShelf_init a_BadShelf_init fd_BadShelf_init
  a_BadDeed_init : Addr
  fd_BadDeed_init : FuncData
  F_BadDeed_init : Fun K "__init__" "BadDeed.__init__" s_BadDeed_init a_BadDeed_init fd_BadDeed_init
  a_TooMany_init : Addr
  fd_TooMany_init : FuncData
  F_TooMany_init : Fun K "__init__" "TooMany.__init__" s_TooMany_init a_TooMany_init fd_TooMany_init
  a_Wheel_init : Addr
  fd_Wheel_init : FuncData
  F_Wheel_init : Fun K "__init__" "Wheel.__init__" s_Wheel_init a_Wheel_init fd_Wheel_init
  a_Wheel_str : Addr
  fd_Wheel_str : FuncData
  F_Wheel_str : Fun K "__str__" "Wheel.__str__" s_Wheel_str a_Wheel_str fd_Wheel_str
  a_Exact_init : Addr
  cda_Exact_init : Addr
  cc_Exact_init : Addr
  fd_Exact_init : FuncData
  F_Exact_init : FunS K "__init__" "Exact.__init__" s_Exact_init a_Exact_init cda_Exact_init cc_Exact_init fd_Exact_init
  so_Exact_init : SupK K mg lawFile cda_Exact_init cc_Exact_init a_Exact a_Wheel_init
  a_Grid_init : Addr
  cda_Grid_init : Addr
  cc_Grid_init : Addr
  fd_Grid_init : FuncData
  F_Grid_init : FunS K "__init__" "Grid.__init__" s_Grid_init a_Grid_init cda_Grid_init cc_Grid_init fd_Grid_init
  so_Grid_init : SupK K mg lawFile cda_Grid_init cc_Grid_init a_Grid a_Wheel_init
  a_Shelf_init : Addr
  fd_Shelf_init : FuncData
  F_Shelf_init : Fun K "__init__" "Shelf.__init__" s_Shelf_init a_Shelf_init fd_Shelf_init
  a_Shelf_can_undo : Addr
  fd_Shelf_can_undo : FuncData
  F_Shelf_can_undo : Fun K "can_undo" "Shelf.can_undo" s_Shelf_can_undo a_Shelf_can_undo fd_Shelf_can_undo
  a_Shelf_can_redo : Addr
  fd_Shelf_can_redo : FuncData
  F_Shelf_can_redo : Fun K "can_redo" "Shelf.can_redo" s_Shelf_can_redo a_Shelf_can_redo fd_Shelf_can_redo
  a_Shelf_len : Addr
  fd_Shelf_len : FuncData
  F_Shelf_len : Fun K "__len__" "Shelf.__len__" s_Shelf_len a_Shelf_len fd_Shelf_len
  a_Shelf_iter : Addr
  fd_Shelf_iter : FuncData
  F_Shelf_iter : Fun K "__iter__" "Shelf.__iter__" s_Shelf_iter a_Shelf_iter fd_Shelf_iter
  a_Shelf_contains : Addr
  fd_Shelf_contains : FuncData
  F_Shelf_contains : Fun K "__contains__" "Shelf.__contains__" s_Shelf_contains a_Shelf_contains fd_Shelf_contains
  a_Shelf_getitem : Addr
  fd_Shelf_getitem : FuncData
  F_Shelf_getitem : Fun K "__getitem__" "Shelf.__getitem__" s_Shelf_getitem a_Shelf_getitem fd_Shelf_getitem
  a_Shelf_stock : Addr
  fd_Shelf_stock : FuncData
  F_Shelf_stock : Fun K "stock" "Shelf.stock" s_Shelf_stock a_Shelf_stock fd_Shelf_stock
  a_Shelf_done : Addr
  fd_Shelf_done : FuncData
  F_Shelf_done : Fun K "_done" "Shelf._done" s_Shelf_done a_Shelf_done fd_Shelf_done
  a_Shelf_hold : Addr
  fd_Shelf_hold : FuncData
  F_Shelf_hold : Fun K "_hold" "Shelf._hold" s_Shelf_hold a_Shelf_hold fd_Shelf_hold
  a_Shelf_undo : Addr
  fd_Shelf_undo : FuncData
  F_Shelf_undo : Fun K "undo" "Shelf.undo" s_Shelf_undo a_Shelf_undo fd_Shelf_undo
  n_ValueError : mg "ValueError" = none
  n_abs : mg "abs" = none
  n_bool : mg "bool" = none
  n_enumerate : mg "enumerate" = none
  n_int : mg "int" = none
  n_isinstance : mg "isinstance" = none
  n_iter : mg "iter" = none
  n_len : mg "len" = none
  n_list : mg "list" = none
  n_property : mg "property" = none
  n_range : mg "range" = none
  n_repr : mg "repr" = none
  n_sorted : mg "sorted" = none
  n_staticmethod : mg "staticmethod" = none
  n_str : mg "str" = none
  n_super : mg "super" = none
  n_tuple : mg "tuple" = none
  bad : BadW K mg
  bads : BadS K mg
  badd : BadD K mg
  tmany : TooM K mg
  R : Addr
  m_R : mg "ReachError" = some (.ref R)
  u_MP : Value
  m_MP : mg "MOST_PERIOD" = some u_MP
  r_MP : RelV (.int 1000000000000) u_MP
  u_ML : Value
  m_ML : mg "MOST_LETTERS" = some u_ML
  r_ML : RelV (.int 8) u_ML
  u_MN : Value
  m_MN : mg "MOST_NAMES" = some u_MN
  r_MN : RelV (.int 8) u_MN
  u_MQ : Value
  m_MQ : mg "MOST_PRICE" = some u_MQ
  r_MQ : RelV (.int 1000000000000) u_MQ
  scls : Cls K a_Shelf
  smk : Mk K a_Shelf a_Shelf_init
  s_done : Meth K a_Shelf "_done" a_Shelf_done
  s_hold : Meth K a_Shelf "_hold" a_Shelf_hold
  s_stock : Meth K a_Shelf "stock" a_Shelf_stock
  s_undo : Meth K a_Shelf "undo" a_Shelf_undo
  p_can_undo : Addr
  p_can_redo : Addr
  pr_undo : PropOf K a_Shelf "can_undo" p_can_undo a_Shelf_can_undo
  pr_redo : PropOf K a_Shelf "can_redo" p_can_redo a_Shelf_can_redo
  s_na : ∀ y ∈ (["_items", "_names", "_past", "_ahead"] : List Str), NoAttr K a_Shelf y
  fi_in : PySem.W.findIn K (.ref a_Shelf) "__contains__" = some (some (.ref a_Shelf_contains))
  fn_in : PySem.W.isFn K (.ref a_Shelf_contains) = true
  fi_len : PySem.W.findIn K (.ref a_Shelf) "__len__" = some (some (.ref a_Shelf_len))
  fn_len : PySem.W.isFn K (.ref a_Shelf_len) = true
  fi_iter : PySem.W.findIn K (.ref a_Shelf) "__iter__" = some (some (.ref a_Shelf_iter))
  fn_iter : PySem.W.isFn K (.ref a_Shelf_iter) = true
  fi_get : PySem.W.findIn K (.ref a_Shelf) "__getitem__" = some (some (.ref a_Shelf_getitem))
  fn_get : PySem.W.isFn K (.ref a_Shelf_getitem) = true
section
variable {P : Program} {w : World} {K : PySem.W.Frag} {mg : Str → Option Value} {base : Heap}
theorem b_is_whole (T : Txt K mg) : Binds K T.fd_is_whole ["value"] [] := T.F_is_whole.binds (ps := ["value"]) fun _ _ _ _ _ _ us hl => match us, hl with | [_], _ => rfl
theorem b_is_between (T : Txt K mg) : Binds K T.fd_is_between ["value", "low", "high"] [] := T.F_is_between.binds (ps := ["value", "low", "high"]) fun _ _ _ _ _ _ us hl => match us, hl with | [_, _, _], _ => rfl
theorem b_is_name (T : Txt K mg) : Binds K T.fd_is_name ["value"] [] := T.F_is_name.binds (ps := ["value"]) fun _ _ _ _ _ _ us hl => match us, hl with | [_], _ => rfl
theorem b_need_part (T : Txt K mg) : Binds K T.fd_need_part ["value", "least", "part"] [] := T.F_need_part.binds (ps := ["value", "least", "part"]) fun _ _ _ _ _ _ us hl => match us, hl with | [_, _, _], _ => rfl
theorem b_with_item (T : Txt K mg) : Binds K T.fd_with_item ["items", "name", "item"] [] := T.F_with_item.binds (ps := ["items", "name", "item"]) fun _ _ _ _ _ _ us hl => match us, hl with | [_, _, _], _ => rfl
theorem b_with_row (T : Txt K mg) : Binds K T.fd_with_row ["items", "row"] [] := T.F_with_row.binds (ps := ["items", "row"]) fun _ _ _ _ _ _ us hl => match us, hl with | [_, _], _ => rfl
theorem b_pen (T : Txt K mg) : Binds K T.fd_pen ["_law_script"] [] := T.F_pen.binds (ps := ["_law_script"]) fun _ _ _ _ _ _ us hl => match us, hl with | [_], _ => rfl
theorem b_draw (T : Txt K mg) : Binds K T.fd_draw ["_law_pen_here", "_law_many"] [] := T.F_draw.binds (ps := ["_law_pen_here", "_law_many"]) fun _ _ _ _ _ _ us hl => match us, hl with | [_, _], _ => rfl
theorem b_pick (T : Txt K mg) : Binds K T.fd_pick ["_law_pen_here", "_law_some"] [] := T.F_pick.binds (ps := ["_law_pen_here", "_law_some"]) fun _ _ _ _ _ _ us hl => match us, hl with | [_, _], _ => rfl
theorem b_name (T : Txt K mg) : Binds K T.fd_name ["_law_pen_here"] [] := T.F_name.binds (ps := ["_law_pen_here"]) fun _ _ _ _ _ _ us hl => match us, hl with | [_], _ => rfl
theorem b_state (T : Txt K mg) : Binds K T.fd_state ["_law_shelf"] [] := T.F_state.binds (ps := ["_law_shelf"]) fun _ _ _ _ _ _ us hl => match us, hl with | [_], _ => rfl
theorem b_with (T : Txt K mg) : Binds K T.fd_with ["_law_state_here", "_law_row_here"] [] := T.F_with.binds (ps := ["_law_state_here", "_law_row_here"]) fun _ _ _ _ _ _ us hl => match us, hl with | [_, _], _ => rfl
theorem b_stock (T : Txt K mg) : Binds K T.fd_stock ["_law_shelf", "_law_rows"] [] := T.F_stock.binds (ps := ["_law_shelf", "_law_rows"]) fun _ _ _ _ _ _ us hl => match us, hl with | [_, _], _ => rfl
theorem b_row (T : Txt K mg) : Binds K T.fd_row ["_law_pen_here", "_law_names"] [] := T.F_row.binds (ps := ["_law_pen_here", "_law_names"]) fun _ _ _ _ _ _ us hl => match us, hl with | [_, _], _ => rfl
theorem b_bad (T : Txt K mg) : Binds K T.fd_bad ["_law_pen_here", "_law_row_here"] [] := T.F_bad.binds (ps := ["_law_pen_here", "_law_row_here"]) fun _ _ _ _ _ _ us hl => match us, hl with | [_, _], _ => rfl
theorem b_first_bad (T : Txt K mg) : Binds K T.fd_first_bad ["_law_state_here", "_law_rows", "_law_bad_here"] [] := T.F_first_bad.binds (ps := ["_law_state_here", "_law_rows", "_law_bad_here"]) fun _ _ _ _ _ _ us hl => match us, hl with | [_, _, _], _ => rfl
theorem b_right (T : Txt K mg) : Binds K T.fd_right ["_law_pen_here", "_law_shelf", "_law_names"] [] := T.F_right.binds (ps := ["_law_pen_here", "_law_shelf", "_law_names"]) fun _ _ _ _ _ _ us hl => match us, hl with | [_, _, _], _ => rfl
theorem b_law (T : Txt K mg) : Binds K T.fd_law ["_law_script"] [] := T.F_law.binds (ps := ["_law_script"]) fun _ _ _ _ _ _ us hl => match us, hl with | [_], _ => rfl
theorem b_BadWheel_init (T : Txt K mg) : Binds K T.fd_BadWheel_init ["self", "part"] [] := T.F_BadWheel_init.binds (ps := ["self", "part"]) fun _ _ _ _ _ _ us hl => match us, hl with | [_, _], _ => rfl
theorem b_BadShelf_init (T : Txt K mg) : Binds K T.fd_BadShelf_init ["self", "part"] [] := T.F_BadShelf_init.binds (ps := ["self", "part"]) fun _ _ _ _ _ _ us hl => match us, hl with | [_, _], _ => rfl
theorem b_BadDeed_init (T : Txt K mg) : Binds K T.fd_BadDeed_init ["self", "at"] [] := T.F_BadDeed_init.binds (ps := ["self", "at"]) fun _ _ _ _ _ _ us hl => match us, hl with | [_, _], _ => rfl
theorem b_TooMany_init (T : Txt K mg) : Binds K T.fd_TooMany_init ["self", "what", "most"] [] := T.F_TooMany_init.binds (ps := ["self", "what", "most"]) fun _ _ _ _ _ _ us hl => match us, hl with | [_, _, _], _ => rfl
theorem b_Wheel_init (T : Txt K mg) : Binds K T.fd_Wheel_init ["self", "period", "back", "ahead"] [] := T.F_Wheel_init.binds (ps := ["self", "period", "back", "ahead"]) fun _ _ _ _ _ _ us hl => match us, hl with | [_, _, _, _], _ => rfl
theorem b_Wheel_str (T : Txt K mg) : Binds K T.fd_Wheel_str ["self"] [] := T.F_Wheel_str.binds (ps := ["self"]) fun _ _ _ _ _ _ us hl => match us, hl with | [_], _ => rfl
theorem b_Exact_init (T : Txt K mg) : Binds K T.fd_Exact_init ["self", "period"] [] := T.F_Exact_init.binds (ps := ["self", "period"]) fun _ _ _ _ _ us hl => match us, hl with | [_, _], _ => rfl
theorem b_Grid_init (T : Txt K mg) : Binds K T.fd_Grid_init ["self", "period"] [] := T.F_Grid_init.binds (ps := ["self", "period"]) fun _ _ _ _ _ us hl => match us, hl with | [_, _], _ => rfl
theorem b_Shelf_init (T : Txt K mg) : Binds K T.fd_Shelf_init ["self"] [] := T.F_Shelf_init.binds (ps := ["self"]) fun _ _ _ _ _ _ us hl => match us, hl with | [_], _ => rfl
theorem b_Shelf_can_undo (T : Txt K mg) : Binds K T.fd_Shelf_can_undo ["self"] [] := T.F_Shelf_can_undo.binds (ps := ["self"]) fun _ _ _ _ _ _ us hl => match us, hl with | [_], _ => rfl
theorem b_Shelf_can_redo (T : Txt K mg) : Binds K T.fd_Shelf_can_redo ["self"] [] := T.F_Shelf_can_redo.binds (ps := ["self"]) fun _ _ _ _ _ _ us hl => match us, hl with | [_], _ => rfl
theorem b_Shelf_len (T : Txt K mg) : Binds K T.fd_Shelf_len ["self"] [] := T.F_Shelf_len.binds (ps := ["self"]) fun _ _ _ _ _ _ us hl => match us, hl with | [_], _ => rfl
theorem b_Shelf_iter (T : Txt K mg) : Binds K T.fd_Shelf_iter ["self"] [] := T.F_Shelf_iter.binds (ps := ["self"]) fun _ _ _ _ _ _ us hl => match us, hl with | [_], _ => rfl
theorem b_Shelf_contains (T : Txt K mg) : Binds K T.fd_Shelf_contains ["self", "value"] [] := T.F_Shelf_contains.binds (ps := ["self", "value"]) fun _ _ _ _ _ _ us hl => match us, hl with | [_, _], _ => rfl
theorem b_Shelf_getitem (T : Txt K mg) : Binds K T.fd_Shelf_getitem ["self", "at"] [] := T.F_Shelf_getitem.binds (ps := ["self", "at"]) fun _ _ _ _ _ _ us hl => match us, hl with | [_, _], _ => rfl
theorem b_Shelf_done (T : Txt K mg) : Binds K T.fd_Shelf_done ["self", "items"] [] := T.F_Shelf_done.binds (ps := ["self", "items"]) fun _ _ _ _ _ _ us hl => match us, hl with | [_, _], _ => rfl
theorem b_Shelf_hold (T : Txt K mg) : Binds K T.fd_Shelf_hold ["self", "items"] [] := T.F_Shelf_hold.binds (ps := ["self", "items"]) fun _ _ _ _ _ _ us hl => match us, hl with | [_, _], _ => rfl
theorem b_Shelf_undo (T : Txt K mg) : Binds K T.fd_Shelf_undo ["self"] [] := T.F_Shelf_undo.binds (ps := ["self"]) fun _ _ _ _ _ _ us hl => match us, hl with | [_], _ => rfl

theorem meets_enum1 {v : Value} {o : Obj} {I0 : Heap → Prop} (Bg : Begins v o I0) : Meets (Builtin.«enumerate.__new__» ⟨[.type "enumerate", v], []⟩) (fun _ R s => I0 s.heap ∧ R (.ok (.ret (.ref (s.heap.push o).objs.size))) { s with heap := (s.heap.push o).push { cls := .type "enumerate", data := .fields #[.none, .bool false, .ref s.heap.objs.size, rawInt 0, .none, .none] } }) :=
  .of_wp fun pr wd A R z hz => by
    obtain ⟨g0, gg, dd, k0, os⟩ := z
    obtain ⟨h1, h2⟩ := hz
    have hsub := sub_enumerate
    have it1 : ∀ {A' : Around} {E' : Value → Shared → Prop} {Q' : Value → Shared → Prop}, Q' (.ref g0.objs.size) ⟨g0.push o, gg, dd, k0, os⟩ → wpAny (model pr wd) A' (pyIter v) Q' E' ⟨g0, gg, dd, k0, os⟩ := fun q => Bg.iter pr wd _ _ ⟨g0, gg, dd, k0, os⟩ _ h1 q
    wp_walk using it1
    refine wpAny_stack_any fun _ => wpAny_pure ?_
    split
    · rename_i cc _ _ _ _ _
      cases (cc == Value.type "enumerate") <;> (wp_walk using it1; exact ⟨_, rfl, h2⟩)
    · wp_walk using it1
      exact ⟨_, rfl, h2⟩
theorem call_enum1 {pr : Program} {wd : World} {B : Around} {EE : Value → Shared → Prop} {z : Shared} {v : Value} {o : Obj} {I0 : Heap → Prop} {Q : Value → Shared → Prop} (Bg : Begins v o I0) (h1 : I0 z.heap)
    (h : ∀ g, IsEnum g (z.heap.objs.size + 1) z.heap.objs.size 0 .none → g.get? z.heap.objs.size = some o → g.objs.size = z.heap.objs.size + 2 → (∀ b u, z.heap.get? b = some u → g.get? b = some u) → Q (.ref (z.heap.objs.size + 1)) { z with heap := g }) :
    wpAny (model pr wd) B (call (.type "enumerate") [v]) Q EE z := by
  refine callType_new F.called_enumerate (by decide) (F.typeCall_enumerate_1 _) (F.newCall_enumerate_1 _) (fun ob => F.args_object_init_2 ob _) F.entry_enumerate_new (meets_enum1 Bg) ⟨h1, ?_⟩
  have s1 : (z.heap.push o).objs.size = z.heap.objs.size + 1 := Heap.size_push ..
  show _ ∧ _
  rw [s1]
  have he : IsEnum ((z.heap.push o).push { cls := .type "enumerate", data := .fields #[.none, .bool false, .ref z.heap.objs.size, rawInt 0, .none, .none] }) (z.heap.objs.size + 1) z.heap.objs.size 0 .none := by
    rw [← s1]
    exact Heap.get?_push_size (z.heap.push o) rfl
  exact ⟨⟨_, he, rfl⟩, h _ he (Heap.get?_push_of_some _ (Heap.get?_push_size _ Bg.free)) (by rw [Heap.size_push, s1]) fun b u q => Heap.get?_push_of_some _ (Heap.get?_push_of_some _ q)⟩
section
variable {X : Cx}
/-- the tuple at a, each item in a new pair -/
def IteT (K : PySem.W.Frag) (a : Addr) : It :=
  ⟨fun i H => ∃ (xs : List V) (x : V), SqT K H a xs ∧ xs[i]? = some x, fun i H v H' => ∃ T x, v = .ref T ∧ H T = Option.none ∧ H' = upd H T (.tup [.int (i : Nat), x]) ∧ ∀ xs, SqT K H a xs → xs[i]? = some x, fun i H => ∃ xs : List V, SqT K H a xs ∧ xs.length ≤ i⟩
theorem turn_enumT {P : Program} {w : World} {K : PySem.W.Frag} {elts : List Expr} {kk : Nat} {tpos : Pos} (a e it : Addr) :
    Turn P w K (.Tuple elts kk tpos) (IteT K a) [e, it] e (fun i h => (∃ old, IsEnum h e it ((i : Nat) : Int) old) ∧ h.IsTupleIter it a i ∧ e ≠ it) where
  mem := by simp
  obj := fun j g st b hb => by
    obtain ⟨⟨old, q⟩, ⟨o, o1, o2, o3⟩, _⟩ := st
    rcases List.mem_cons.mp hb with y | y
    · rw [y]; exact ⟨_, q, fun v z => nomatch z⟩
    · rw [List.mem_singleton.mp y]; exact ⟨o, o1, fun v z => by rw [o3] at z; cases z⟩
  keep := fun j g g' st k => by
    obtain ⟨⟨old, q⟩, hi, ne⟩ := st
    exact ⟨⟨old, k e List.mem_cons_self _ q⟩, hi.at fun o y => k it (by simp) o y, ne⟩
  item := by
    intro X hP hw hK hc i pins s σ H E I hf st hg
    subst hP hw hK
    obtain ⟨⟨old, he⟩, hit, hne⟩ := st
    obtain ⟨xs, x, hq, hx⟩ := hg
    obtain ⟨its, rv, pl, hz⟩ := I.tuple hq
    obtain ⟨u, hu, ru⟩ := rv.get hx
    obtain ⟨oa, oa1, oa2, _⟩ := id pl
    obtain ⟨oi, oi1, oi2, _⟩ := id hit
    have nai : a ≠ it := fun y => by
      rw [y, oi1] at oa1
      cases oa1
      rw [oi2] at oa2
      exact absurd oa2 (by decide)
    have nae : e ≠ a := fun y => by
      rw [y] at he
      have he : s.heap.get? a = _ := he
      rw [oa1] at he
      cases he
      exact absurd (show Value.type "enumerate" = Value.type "tuple" from oa2) (by decide)
    have hel : e < s.heap.objs.size := Heap.lt_size he
    have hil : it < s.heap.objs.size := Heap.lt_size oi1
    have ix : i < its.toArray.size := by rw [List.size_toArray]; exact (List.getElem?_eq_some_iff.mp hu).1
    refine wpAny_pyNext_enum_itemD (Draws.tuple (A := X.A.in1) (I.ok.hd hc) it a nai its.toArray) he ⟨hit, pl⟩ ix hne (fun y => ?_) fun v g k hv ho st2 hT hsz kp => ?_
    · rcases List.mem_cons.mp y with y | y
      · exact hne y
      · exact nae (List.mem_singleton.mp y)
    have ev : v = u := by
      have : its[i]? = some v := by simpa using hv
      rw [hu] at this
      exact (Option.some.inj this).symm
    subst ev
    refine ⟨_, rfl, wpAny_letOwnedTupleGo_enum (s := { s with heap := g, toks := k + 1 }) ho fun g2 he2 sb => ?_⟩
    have hT2 : g2.get? s.heap.objs.size = some { cls := .type "tuple", data := .seq #[.int i k, v] } := (sb.2 _ (Nat.ne_of_gt hel)).trans hT
    have new : ObjOk X.prog X.w (upd H s.heap.objs.size (.tup [.int (i : Nat), x])) g2 s.heap.objs.size (.tup [.int (i : Nat), x]) := ⟨by show 2 ≤ sizeLine; decide, [.int i k, v], .cons ⟨_, rfl⟩ (.cons ru .nil), ⟨_, hT2, rfl, _, rfl⟩⟩
    have keep2 : ∀ b o, b ∉ [e, it] → s.heap.get? b = some o → g2.get? b = some o := fun b o hb q => by
      have b1 : b ≠ e := fun z => hb (by rw [z]; exact List.mem_cons_self)
      have b2 : b ≠ it := fun z => hb (by rw [z]; simp)
      exact (sb.2 b b1).trans (kp b o b1 b2 q)
    have I1 : Inv X pins σ (upd H s.heap.objs.size (.tup [.int (i : Nat), x])) { s with heap := g2, toks := k + 1 } := I.turnedNew (ch := [e, it]) keep2 hf (Nat.le_refl _) new
    have low : ∀ b ∈ [e, it], b < s.heap.objs.size := fun b hb => by
      rcases List.mem_cons.mp hb with z | z
      · rw [z]; exact hel
      · rw [List.mem_singleton.mp z]; exact hil
    refine ⟨.ref s.heap.objs.size, _, I1, rfl, ⟨_, x, rfl, I.hok.fresh (Nat.le_refl _), rfl, fun ys hy => by rw [I.tuple_inj hy hq]; exact hx⟩, ⟨⟨v, ?_⟩, st2.1.at fun o q => (sb.2 it (Ne.symm hne)).trans q, hne⟩, fun b hb => ?_⟩
    · rw [show ((i + 1 : Nat) : Int) = (i : Int) + 1 by omega]
      exact he2
    · rw [upd_ne (Nat.ne_of_lt (low b hb))]
      exact (hf b hb).1
  done := by
    intro X hP hw hK hc i pins s σ H E I hf st hg
    subst hP hw hK
    obtain ⟨⟨old, he⟩, hit, hne⟩ := st
    obtain ⟨xs, hq, hx⟩ := hg
    obtain ⟨its, rv, pl, hz⟩ := I.tuple hq
    obtain ⟨f0, f1, f2, f3, f4, f5⟩ := hf it (by simp)
    have none_at : its.toArray[i]? = Option.none := by
      have : its.length ≤ i := by rw [← rv.length]; exact hx
      simpa using this
    have hTy : s.TypeIs (.ref e) "enumerate" := ⟨_, he, rfl⟩
    unfold pyNext
    refine wpAny_bind (wpAny_attempt (wpAny_callSpecial?_slot (name := Str.ofString "__next__") hTy F.slot_enumerate_next ?_))
    refine wpAny_call_entry F.slot_enumerate_next hTy F.entry_enumerate_next ?_ (F.args_enumerate_next_1 _)
    show wpAny _ _ (field (.ref e) 2 >>= _) _ _ _
    refine wpAny_bind (wpAny_field he rfl (x := .ref it) rfl (wpAny_bind (wpAny_nextOf_tuple_end (A := X.A.in1) (I.ok.hd hc) hit pl none_at fun g x eg hx2 => ?_)))
    obtain ⟨ox, ox1, ox2⟩ := hx2
    exact wpAny_bind (wpAny_isInstance (T := "StopIteration") (b := true) ⟨ox, ox1, ox2⟩ isSubtype_stop (wpAny_pure ⟨rfl, I.turned (t' := s.toks) (fun b o hb q => eg b o hb q) f0 f1 f3 f4 f5⟩))
  self := fun A i s Q E st h => by
    obtain ⟨⟨_, he⟩, _⟩ := st
    exact wpAny_pyIter_enum he h
/-- enumerate of a list or of a tuple, walked -/
def iEnum2 (K : PySem.W.Frag) (ta : TA) : TI := fun σ H R => ta σ H fun vs H1 => ∃ a xs, vs = [.ref a] ∧ ((SqL K H1 a xs ∧ R (Ite K a) H1) ∨ (SqT K H1 a xs ∧ R (IteT K a) H1))
theorem pi_enum2 {e : Expr} {ta : TA} {p pos tpos : Pos} {elts : List Expr} {kk : Nat} (hg : Gl X "enumerate") (hm : X.mg "enumerate" = Option.none) (ha : PA X [e] ta) (hs : starEach [e] X.env = [(false, eval e X.env)] := by rfl) : PI X (.Tuple elts kk tpos) (.Call (.Name "enumerate" p) [e] [] pos) (iEnum2 X.K ta) := by
  refine ⟨fun pins s σ H R I h => Call_ (ld_blt I hg hm boot_enumerate (PyProof.Rows.callWith_type1 (thn (ha.run pos pins s σ H _ I h) fun us s1 ⟨vs, H1, I1, r1, q1⟩ => ?_) hs rfl))⟩
  obtain ⟨a, xs, ev, q⟩ := q1
  subst ev
  obtain rfl := Vals.ref1 r1
  have fresh2 : ∀ b ∈ [s1.heap.objs.size + 1, s1.heap.objs.size], FpOk X pins H1 b := fun b hb => by
    have le : s1.heap.objs.size ≤ b := by
      rcases List.mem_cons.mp hb with z | z
      · rw [z]; exact Nat.le_succ _
      · rw [List.mem_singleton.mp z]; exact Nat.le_refl _
    exact I1.fpOk le (I1.hok.fresh le)
  rcases q with ⟨hq, q⟩ | ⟨hq, q⟩
  · obtain ⟨its, rv, pl, hz⟩ := I1.list hq
    refine call_enum1 (begins_list a its.toArray) pl.isList fun g he hj hsz kp => wpAny_pyIter_enum he ?_
    exact ⟨s1.heap.objs.size + 1, [s1.heap.objs.size + 1, s1.heap.objs.size], _, _, H1, rfl, I1.kept (t' := s1.toks) kp, turn_enum a (s1.heap.objs.size + 1) s1.heap.objs.size, ⟨⟨.none, he⟩, ⟨_, hj, rfl, rfl⟩, Nat.succ_ne_self _⟩, fresh2, q⟩
  · obtain ⟨its, rv, pl, hz⟩ := I1.tuple hq
    refine call_enum1 (begins_tuple a its.toArray) pl fun g he hj hsz kp => wpAny_pyIter_enum he ?_
    exact ⟨s1.heap.objs.size + 1, [s1.heap.objs.size + 1, s1.heap.objs.size], _, _, H1, rfl, I1.kept (t' := s1.toks) kp, turn_enumT a (s1.heap.objs.size + 1) s1.heap.objs.size, ⟨⟨.none, he⟩, ⟨_, hj, rfl, rfl⟩, Nat.succ_ne_self _⟩, fresh2, q⟩
end

theorem for_enumT {K : PySem.W.Frag} {a : Addr} {xs : List V} {g : TG} {tb : TS} {D : Ends} {σ : L2.St} {H : Hp} (Pv : Nat → L2.St → Hp → Prop) (h0 : Pv 0 σ H) (hl : ∀ i σ H, i ≤ xs.length → Pv i σ H → SqT K H a xs)
    (hs : ∀ i x σ H T, xs[i]? = some x → Pv i σ H → H T = Option.none → g (.ref T) σ (upd H T (.tup [.int (i : Nat), x])) fun σ2 H2 => tb { nx := Pv (i + 1), rt := D.rt, bk := D.nx, ct := Pv (i + 1) } σ2 H2) (hd : ∀ σ H, Pv xs.length σ H → D.nx σ H) :
    ∃ W : Nat → Nat → L2.St → Hp → Prop, (∃ m, W 0 m σ H) ∧ ∀ i m σ H, W i m σ H →
      ((IteT K a).stop i H ∧ D.nx σ H) ∨ ((IteT K a).go i H ∧ ∃ N : L2.St → Hp → Prop, (∀ σ' H', N σ' H' → ∃ m', m' < m ∧ W (i + 1) m' σ' H') ∧ ∀ x H', (IteT K a).yld i H x H' → g x σ H' fun σ2 H2 => tb { nx := N, rt := D.rt, bk := D.nx, ct := N } σ2 H2) := by
  refine ⟨fun i m σ H => m = xs.length - i ∧ i ≤ xs.length ∧ Pv i σ H, ⟨xs.length, by simp, Nat.zero_le _, h0⟩, ?_⟩
  rintro i m σ H ⟨rfl, hi, p⟩
  have q := hl i σ H hi p
  by_cases hlt : i < xs.length
  · refine .inr ⟨⟨xs, xs[i], q, by simp [hlt]⟩, Pv (i + 1), fun σ' H' p' => ⟨xs.length - (i + 1), by omega, rfl, hlt, p'⟩, fun x H' y => ?_⟩
    obtain ⟨T, z, rfl, hT, rfl, hz⟩ := y
    exact hs i z σ H T (hz xs q) p hT
  · have e : i = xs.length := by omega
    subst e
    exact .inl ⟨⟨xs, q, Nat.le_refl _⟩, hd σ H p⟩

/-! ### own words while an error is handled: len, not in, x[k], properties; the error that is handled, its own dict -/
section
variable {X : Cx} {k : Nat} {C f : Addr} {fd : FuncData} {ps : List Str} {sp : Sp}
theorem roomH_in1 {A : Around} (r : L2H.RoomH (k + 1) A) : L2H.RoomH k A.in1 := ⟨by have := r.dp; show A.depth + 3 * k + 5 < _; omega, by have := r.un; show A.units + 1 + 16 * k + 200 < _; omega⟩
theorem run_fnHA {A' : Around} {pins : List (Addr × Obj)} {σ : L2.St} {H : Hp} {s : Shared} {Q : VK} {us : List Value} {vs : List V} (F : L2H.FnH X.prog X.w X.K X.mg X.base CX0 k f fd ps sp) (hr : L2H.RoomH k A') (hA : ∀ {s : Shared} {H : Hp}, Env0 X.prog X.w X.K X.mg X.base X.A X.stack s H → Env0 X.prog X.w X.K X.mg X.base A' X.stack s H) (hh : A'.handled = X.A.handled) (hc : L2H.HotC X) (hb : Binds X.K fd ps [])
    (I : Inv X pins σ H s) (r : Vals vs us) (h : sp vs H Q E0) : wpAny (model X.prog X.w) A' (call (.ref f) us) (EP X pins σ Q) X.xe s := by
  obtain ⟨p, ⟨hot1, hot2⟩, hp⟩ := hc
  have hl : us.length = ps.length := by rw [← r.length]; exact F.len _ _ _ _ h
  have b := hb s us I.kIn (by rw [List.append_nil]; exact hl)
  rw [List.append_nil] at b
  have P1 := I.pin p (List.mem_append_left _ hp)
  have hpin : L2H.PinOk X.stack H s p := ⟨P1.1, P1.2.1, fun hm => (List.mem_cons.mp (I.stkSub p.1 hm)).elim P1.2.2.1 P1.2.2.2.1, P1.2.2.2.2⟩
  refine wpAny_call (codeAny_mono (F.run A' X.stack s H ⟨us, []⟩ us vs Q E0 p hr ⟨hh.trans hot1, hot2⟩ hpin (hA I.env0) b r h) fun r s' hq => ?_)
  cases r with
  | error e => exact hq.elim
  | ok fl =>
    cases fl with
    | ret u => exact I.after hq
    | next => exact False.elim hq
    | brk => exact False.elim hq
    | cont => exact False.elim hq
theorem call_lenH (F : L2H.FnH X.prog X.w X.K X.mg X.base CX0 k f fd ps sp) (hr : L2H.RoomH (k + 1) X.A) (hc : L2H.HotC X) (hb : Binds X.K fd ps []) (hs : PySem.W.findIn X.K (.ref C) "__len__" = some (some (.ref f))) (hf : PySem.W.isFn X.K (.ref f) = true) : CallR X (.builtin "len") (rLenO C sp E0) := by
  intro pins s σ H xs us Q I r h
  obtain ⟨a, dx, fs, rfl, ha, q⟩ := h
  obtain ⟨u, rfl, ru⟩ := vals1 r
  obtain rfl : u = Value.ref a := ru
  obtain ⟨o, od, J⟩ := ins_at I ha
  obtain ⟨m, hF⟩ := I.fr
  refine PySem.W.len_K hF I.ok.mod.kin J hs hf (thn (run_fnHA (A' := X.A.in1) (us := [.ref a]) (vs := [.ref a]) F (roomH_in1 hr) (fun e => e.in1) rfl hc hb I (.cons rfl .nil) q) fun v s1 z => ?_)
  obtain ⟨w', H1, I1, rw1, n, rfl, h0, h1, q1⟩ := z
  obtain ⟨t, rfl⟩ := rw1
  exact ⟨⟨h0, h1⟩, .int n, H1, I1.tok _, ⟨_, rfl⟩, q1⟩
theorem op_notInH (F : L2H.FnH X.prog X.w X.K X.mg X.base CX0 k f fd ps sp) (hr : L2H.RoomH k X.A) (hc : L2H.HotC X) (hb : Binds X.K fd ps []) (hs : PySem.W.findIn X.K (.ref C) "__contains__" = some (some (.ref f))) (hf : PySem.W.isFn X.K (.ref f) = true) : OpR X (compareOp .NotIn) (rNotInO C sp E0) := by
  intro pins s σ H x y v u Q I rx ry h
  obtain ⟨a, dx, fs, rfl, ha, q⟩ := h
  obtain rfl : u = Value.ref a := ry
  obtain ⟨o, od, J⟩ := ins_at I ha
  obtain ⟨m, hF⟩ := I.fr
  refine PySem.W.notIn_K hF I.ok.mod.kin J hs hf (thn (run_fnHA (A' := X.A) (us := [.ref a, v]) (vs := [.ref a, x]) F hr (fun e => e) rfl hc hb I (.cons rfl (.cons rx .nil)) q) fun r s1 z => ?_)
  obtain ⟨w, H1, I1, rw1, b, rfl, q1⟩ := z
  cases rw1
  exact wpAny_truthy_bool ⟨.bl (!b), H1, I1, rfl, q1⟩
theorem pe_ixH {a b : Expr} {ta tb : TE} {pos : Pos} (F : L2H.FnH X.prog X.w X.K X.mg X.base CX0 k f fd ps sp) (hr : L2H.RoomH (k + 1) X.A) (hc : L2H.HotC X) (hb : Binds X.K fd ps []) (hs : PySem.W.findIn X.K (.ref C) "__getitem__" = some (some (.ref f))) (hf : PySem.W.fnIn X.K f = true) (hfn : PySem.W.isFn X.K (.ref f) = true)
    (ha : PE X a ta) (hi : PE X b tb) (hsl : ∀ o i, subscripted b true o i = runValue (.builtin "lifetime.subscript" ⟨[o, i], []⟩) := by intros; rfl) : PE X (.Subscript a b pos) (tOp (rIxO C sp E0) ta tb) := by
  refine ⟨fun pins s σ H Q I h => PyProof.Rows.Subscript_ (thn (ha.run pins s σ H _ I h) fun v s1 z => ?_)⟩
  obtain ⟨x, H1, I1, rx, h1⟩ := z
  refine thn (hi.run pins s1 σ H1 _ I1 h1) fun u s2 z => ?_
  obtain ⟨y, H2, I2, ry, q, dx, fs, rfl, ea, h2⟩ := z
  obtain rfl : v = Value.ref q := rx
  obtain ⟨o, od, J⟩ := ins_at I2 ea
  obtain ⟨m, hF⟩ := I2.fr
  exact PySem.W.sub_K hF I2.ok.mod.kin J hs hf hfn (run_fnHA (A' := X.A.in1) (us := [.ref q, u]) (vs := [.ref q, y]) F (roomH_in1 hr) (fun e => e.in1) rfl hc hb I2 (.cons rfl (.cons ry .nil)) h2) (hsl _ _)
/-- the same, the class of whose instance is read under a K that is given -/
theorem pe_ixOK {a b : Expr} {ta tb : TE} {pos : Pos} {CX : CXT} {E : XK} (K : PySem.W.Frag) (hK : X.K = K) (F : FnOk X.prog X.w X.K X.mg X.base CX k f fd ps sp) (hr : Room (k + 1) X.A) (hb : Binds X.K fd ps []) (hx : Passes CX X E) (hs : PySem.W.findIn K (.ref C) "__getitem__" = some (some (.ref f))) (hf : PySem.W.fnIn K f = true) (hfn : PySem.W.isFn K (.ref f) = true)
    (ha : PE X a ta) (hi : PE X b tb) (hsl : ∀ o i, subscripted b true o i = runValue (.builtin "lifetime.subscript" ⟨[o, i], []⟩) := by intros; rfl) : PE X (.Subscript a b pos) (tOp (rIxO C sp E) ta tb) := by
  subst hK
  exact pe_ixO F hr hb hx hs hf hfn ha hi hsl
theorem pe_propH {x : Str} {e : Expr} {pos : Pos} {ta : TE} (he : PE X e ta) (p : Addr) (F : L2H.FnH X.prog X.w X.K X.mg X.base CX0 k f fd ps sp) (hr : L2H.RoomH (k + 1) X.A) (hc : L2H.HotC X) (hb : Binds X.K fd ps [])
    (hab : attributeBase e x X.env (eval e X.env) = eval e X.env) : PE X (.Attribute e x pos) (tPropW X.K x p f sp [] E0 ta) := by
  refine ⟨fun pins s σ H Q I h => ?_⟩
  refine attr_of hab (thn (he.run pins s σ H _ I h) fun u s1 ⟨y, H1, I1, rx, a, C, dx, fs, ex, ea, c, hp, q⟩ => ?_)
  subst ex
  obtain rfl : u = Value.ref a := rx
  obtain ⟨mA, O, _, _, _, _⟩ := ins_get I1.hok ea
  obtain ⟨od, J, _⟩ := O.look
  obtain ⟨rest, hrec⟩ := hp.rec_
  have I2 := I1.tok (s1.toks + 1)
  have hcc : (PySem.W.clsIn X.K C).isSome = true := by
    obtain ⟨cd, hc, _⟩ := PySem.W.any_some c.hd
    rw [hc]
    rfl
  obtain ⟨p', ⟨hot1, hot2⟩, hp'⟩ := hc
  have hl : ([Value.ref a] : List Value).length = ps.length := by rw [← F.len _ _ _ _ q]; rfl
  have b := hb { s1 with toks := s1.toks + 1 } [.ref a] I2.kIn (by rw [List.append_nil]; exact hl)
  rw [List.append_nil] at b
  have P1 := I2.pin p' (List.mem_append_left _ hp')
  have hpin : L2H.PinOk X.stack H1 { s1 with toks := s1.toks + 1 } p' := ⟨P1.1, P1.2.1, fun hm => (List.mem_cons.mp (I2.stkSub p'.1 hm)).elim P1.2.2.1 P1.2.2.2.1, P1.2.2.2.2⟩
  refine PySem.W.get_bind I1.kIn J (PySem.W.plainGet_of (c.get x)).1 (PySem.W.findObj_data hcc hp.at_ hp.get hp.tak) (PySem.W.plainGet_of (c.get x)).2 (wpAny_call (PySem.W.prop_get (s := { s1 with toks := s1.toks + 1 }) I1.kIn hrec ?_))
  refine codeAny_mono (F.run X.A.in1 X.stack { s1 with toks := s1.toks + 1 } H1 ⟨[.ref a], []⟩ [.ref a] [.ref a] Q E0 p' (roomH_in1 hr) ⟨hot1, hot2⟩ hpin I2.env0.in1 b (.cons rfl .nil) q) fun r s' hq => ?_
  cases r with
  | error er => exact hq.elim
  | ok fl =>
    cases fl with
    | ret u =>
      obtain ⟨v, H', I3, rv, q3⟩ := I2.after hq
      show wpAny _ _ (handedOut u) _ _ _
      rw [PySem.W.handedOut_of (handed_of rv)]
      exact wpAny_pure ⟨v, H', I3, rv, q3⟩
    | next => exact False.elim hq
    | brk => exact False.elim hq
    | cont => exact False.elim hq
/-- the error that is handled: its class, its dict -/
theorem XP_inst {p : Addr × Obj} {pins : List (Addr × Obj)} {σ : L2.St} {H : Hp} {s : Shared} {C d : Addr} {fs : List (Str × V)} (I : Inv X pins σ H s) (hp : p ∈ X.pn) (hz : Zc (.ref C) (some d) p.2) (hf : ∃ vs, p.2.data = .fields vs) (ed : H d = some (.xd fs)) :
    ∃ (od : Obj), PySem.W.InstAt s.heap p.1 p.2 C (some od) ∧ ∃ mA : Str → Option Value, (∀ f, RelO (fs.lookup f) (mA f)) ∧ ∀ f : Str, PySem.W.lookIn f od = some (mA f) := by
  obtain ⟨vs, h3⟩ := hf
  have h1 := (I.pin p (List.mem_append_left _ hp)).1
  obtain ⟨mA, hns, hr⟩ := (show ObjOk X.prog X.w H s.heap d (.xd fs) from I.hok d _ ed)
  obtain ⟨od, ho, hl⟩ := lookIn_ns hns
  exact ⟨od, ⟨h1, hz.1, by unfold PySem.W.notCls; rw [h3] <;> rfl, by rw [hz.2]; exact ho⟩, mA, hr, hl⟩
def rIsP (K : PySem.W.Frag) (a : Addr) (cls : Value) (dd : Option Addr) : List V → Hp → VK → Prop := fun xs H Q => ∃ (C d : Addr) (fs : List (Str × V)) (c : V) (cv : Value) (b : Bool), xs = [.ref a, c] ∧ cls = .ref C ∧ dd = some d ∧ H d = some (.xd fs) ∧ ErrC K C ∧ (∀ u, RelV c u → u = cv) ∧ PySem.W.kitOne K (.ref C) cv = some b ∧ Q (.bl b) H
theorem call_isP {p : Addr × Obj} {cls : Value} {dd : Option Addr} (hp : p ∈ X.pn) (hz : Zc cls dd p.2) (hf : ∃ vs, p.2.data = .fields vs) : CallR X (.builtin "isinstance") (rIsP X.K p.1 cls dd) := by
  intro pins s σ H xs us Q I r h
  obtain ⟨C, d, fs, c, cv, b, rfl, rfl, rfl, ed, T, hc, k, q⟩ := h
  obtain ⟨u1, u2, rfl, r1, r2⟩ := vals2 r
  obtain rfl : u1 = Value.ref p.1 := r1
  have e2 := hc _ r2
  subst e2
  obtain ⟨od, J, _⟩ := XP_inst I hp hz hf ed
  exact PySem.W.kia_one (PySem.W.kitx_exc T.cl T.ga T.gg T.ex T.ha T.hn T.ht T.hm) I.kIn J k (fun z => nomatch z) fun tk => ⟨.bl b, H, I.kept (t' := tk) fun _ _ z => z, rfl, q⟩
def tFldP (K : PySem.W.Frag) (a : Addr) (cls : Value) (dd : Option Addr) (f : Str) (te : TE) : TE := fun σ H Q => te σ H fun x H1 => ∃ (C d : Addr) (fs : List (Str × V)) (v : V), x = .ref a ∧ cls = .ref C ∧ dd = some d ∧ H1 d = some (.xd fs) ∧ ErrC K C ∧ PySem.W.findIn K (.ref C) f = some Option.none ∧ fs.lookup f = some v ∧ Q v H1
theorem pe_fldP {p : Addr × Obj} {cls : Value} {dd : Option Addr} {e : Expr} {te : TE} {f : Str} {pos : Pos} (hp : p ∈ X.pn) (hz : Zc cls dd p.2) (hf : ∃ vs, p.2.data = .fields vs) (he : PE X e te) (hb : attributeBase e f X.env (eval e X.env) = eval e X.env := by rfl) : PE X (.Attribute e f pos) (tFldP X.K p.1 cls dd f te) := by
  refine ⟨fun pins s σ H Q I h => attr_of hb (thn (he.run pins s σ H _ I h) fun u s1 hh => ?_)⟩
  obtain ⟨y, H1, I1, ry, C, d, fs, v, rfl, rfl, rfl, ed, T, no, l, q⟩ := hh
  obtain rfl : u = Value.ref p.1 := ry
  obtain ⟨od, J, mA, hr, hl⟩ := XP_inst I1 hp hz hf ed
  obtain ⟨u, hu, ru⟩ := RelO.some_of (v := v) (o := mA f) (by rw [← l]; exact hr f)
  exact HandSPX.exc_get I1.kIn J T.ga T.gg T.ex (PySem.W.findObj_own T.hd no rfl (by rw [hl, hu])) (handed_of ru) ⟨v, H1, I1.tok _, ru, q⟩
end

/-! ### sorted of rows of two texts and an integer -/
/-- a row: where it stands, its texts, its integer -/
abbrev RowT := Addr × Str × Str × Int
def rowD (r : RowT) : PyData := .tuple [.str r.2.1, .str r.2.2.1, .int r.2.2.2]
def RowAt (H : Hp) (r : RowT) : Prop := H r.1 = some (.tup [.str r.2.1, .str r.2.2.1, .int r.2.2.2])
def rowLe : RowT → RowT → Bool := PySem.W.dataLe false rowD
theorem each_refs : ∀ (rs : List RowT) (us : List Value), Vals (rs.map fun r => V.ref r.1) us → PySem.W.EachIs (fun (v : Value) (b : RowT) => v = .ref b.1) us rs
  | [], [], _ => .nil
  | _ :: rs, _ :: us, .cons r t => .cons r (each_refs rs us t)
theorem refs_each : ∀ {rs : List RowT} {us : List Value}, PySem.W.EachIs (fun (v : Value) (b : RowT) => v = .ref b.1) us rs → Vals (rs.map fun r => V.ref r.1) us
  | _, _, .nil => .nil
  | _, _, .cons e t => .cons e (refs_each t)
def rSortedR (K : PySem.W.Frag) : List V → Hp → VK → Prop := fun vs H Q => ∃ (a : Addr) (rs : List RowT), vs = [V.ref a] ∧ SqL K H a (rs.map fun r => V.ref r.1) ∧ (∀ r ∈ rs, RowAt H r) ∧
  ∀ p, H p = Option.none → Q (.ref p) (upd H p (.lst ((rs.mergeSort rowLe).map fun r => V.ref r.1)))
theorem cr_sortedR {X : Cx} (hu : X.A.units + 64 < cLine) : CallR X (.builtin "sorted") (rSortedR X.K) := by
  intro pins s σ H vs us Q I r h
  obtain ⟨a, rs, rfl, hs, hr, q⟩ := h
  obtain ⟨its, rv, hl, hz⟩ := I.list hs
  obtain ⟨u, rfl, ru⟩ := vals1 r
  obtain rfl : u = Value.ref a := ru
  have E1 := each_refs rs _ rv
  rw [List.length_map] at hz
  refine PySem.W.sorted_data (bs := rs) (enc := rowD) (R := fun (v : Value) (b : RowT) => v = .ref b.1) hl.isList E1 ?_ (PySem.W.AllAlike.of fun _ _ => rfl) (PySem.W.Sortable.tuples fun b => ⟨_, _, rfl⟩) hz (fun b _ => ?_) fun out hlen hout => ?_
  · have mem : ∀ (rs' : List RowT) (us' : List Value), PySem.W.EachIs (fun (v : Value) (b : RowT) => v = .ref b.1) us' rs' → (∀ r ∈ rs', RowAt H r) → PySem.W.EachIs (fun v b => ∃ as, Reads s.heap v (rowD b) as) us' rs' := by
      intro rs' us' e
      induction e with
      | nil => exact fun _ => .nil
      | @cons v b us2 rs2 e1 _ ih =>
        intro hh
        subst e1
        refine .cons ?_ (ih fun r hr' => hh r (List.mem_cons_of_mem _ hr'))
        obtain ⟨as, z, _⟩ := Dq.reads I (v := .ref b.1) (d := rowD b) (.dp (.tup (SqT.of (hh b List.mem_cons_self)) (.cons (.str _) (.cons (.str _) (.cons (.int _) .nil))))) (u := .ref b.1) rfl
        exact ⟨as, z⟩
    exact mem _ _ E1 hr
  · show X.A.units + 2 + PyData.depth (.tuple [.str _, .str _, .int _]) < cLine
    simp only [PyData.depth, PyData.depthAll]
    have : (max 0 (max 0 (max 0 0)) : Nat) = 0 := by decide
    omega
  · obtain ⟨ep, he'⟩ := PyProof.Rows.sortedAll_at s.heap its out.toArray
    have hlen2 : (((rs.mergeSort rowLe)).map fun r => V.ref r.1).length ≤ sizeLine := by rw [List.length_map, List.length_mergeSort]; exact hz
    exact ⟨.ref _, upd H (s.heap.objs.size + 1) (.lst ((rs.mergeSort rowLe).map fun r => V.ref r.1)), I.laid (t' := s.toks) (fun _ _ => PyProof.Rows.sortedAll_old) (Nat.le_succ _) ⟨hlen2, out, ep, refs_each hout, he'⟩, rfl, q _ (I.hok.fresh (Nat.le_succ _))⟩

/-! ### the shelf's rows in the order of their names -/
abbrev Row := Str × Str × Int
def nkey (r : Row) : List Nat := r.1.cps.toList
theorem str_of_cps {x y : Str} (h : x.cps.toList = y.cps.toList) : x = y := by
  obtain ⟨⟨a⟩⟩ := x
  obtain ⟨⟨b⟩⟩ := y
  simp only at h
  rw [h]
def Strict (l : List Row) : Prop := l.Pairwise fun a b => nkey a < nkey b
theorem strict_uniq : ∀ {l m : List Row}, Strict l → Strict m → (∀ x, x ∈ l ↔ x ∈ m) → l = m
  | [], [], _, _, _ => rfl
  | [], y :: m, _, _, h => absurd ((h y).mpr List.mem_cons_self) List.not_mem_nil
  | x :: l, [], _, _, h => absurd ((h x).mp List.mem_cons_self) List.not_mem_nil
  | x :: l, y :: m, hl, hm, h => by
    obtain ⟨l1, l2⟩ := List.pairwise_cons.mp hl
    obtain ⟨m1, m2⟩ := List.pairwise_cons.mp hm
    have e : x = y := by
      rcases List.mem_cons.mp ((h x).mp List.mem_cons_self) with e | hx
      · exact e
      · rcases List.mem_cons.mp ((h y).mpr List.mem_cons_self) with e | hy
        · exact e.symm
        · exact absurd (l1 y hy) fun z => List.lt_asymm z (m1 x hx)
    subst e
    refine congrArg (x :: ·) (strict_uniq l2 m2 fun z => ⟨fun hz => ?_, fun hz => ?_⟩)
    · rcases List.mem_cons.mp ((h z).mp (List.mem_cons_of_mem _ hz)) with e | q
      · subst e; exact absurd (l1 z hz) (List.lt_irrefl _)
      · exact q
    · rcases List.mem_cons.mp ((h z).mpr (List.mem_cons_of_mem _ hz)) with e | q
      · subst e; exact absurd (m1 z hz) (List.lt_irrefl _)
      · exact q
theorem rowLe_lt {r r' : RowT} (h : rowLe r r' = true) (ne : r.2.1 ≠ r'.2.1) : nkey r.2 < nkey r'.2 := by
  have e : rowLe r r' = !PySem.W.dataLt (rowD r') (rowD r) := rfl
  rw [e] at h
  have e2 : PySem.W.dataLt (rowD r') (rowD r) = PySem.W.dataLt (.str r'.2.1) (.str r.2.1) := by
    unfold rowD
    rw [PySem.W.dataLt_tuple, PySem.W.dataLt_cons (by simp [PySem.W.alike])]
    rw [if_neg]
    simp only [PyData.eqv, beq_iff_eq]
    exact fun z => ne z.symm
  rw [e2, PySem.W.dataLt_str] at h
  have h3 : ¬ r'.2.1.cps.toList < r.2.1.cps.toList := fun z => by rw [decide_eq_true z] at h; cases h
  by_cases h4 : nkey r.2 < nkey r'.2
  · exact h4
  · exact absurd (str_of_cps (List.le_antisymm (List.not_lt.mp h3) (List.not_lt.mp h4))) ne
theorem rowLe_total : PySem.W.TotalLe rowLe := by
  unfold rowLe PySem.W.dataLe
  exact PySem.W.sortLe_total _ _ _
/-- sorted by rowLe, names apart: in the order of the names -/
theorem sort_strict {rs : List RowT} (nd : (rs.map fun r => r.2.1).Nodup) : Strict ((rs.mergeSort rowLe).map (·.2)) := by
  have p := PySem.W.sort_pairwise rowLe_total rs
  have pm : (rs.mergeSort rowLe).Perm rs := List.mergeSort_perm _ _
  have nd2 : ((rs.mergeSort rowLe).map fun r => r.2.1).Nodup := (pm.map _).nodup_iff.mpr nd
  refine List.pairwise_map.mpr ?_
  have nd3 := List.pairwise_map.mp nd2
  exact List.Pairwise.imp₂ (fun _ _ h1 h2 => rowLe_lt h1 h2) p nd3
theorem strict_names {l : List Row} (h : Strict l) : (l.map (·.1)).Nodup := by
  refine List.pairwise_map.mpr (List.Pairwise.imp (fun {a b} (h : nkey a < nkey b) => ?_) h)
  intro e
  unfold nkey at h
  rw [e] at h
  exact List.lt_irrefl _ h
/-- one item of a shelf -/
structure Ent where
  n : Str
  tr : Bool
  p : Int
  b : Int
  a : Int
  pr : Int
def Ent.row (e : Ent) : Row := (e.n, NX.wtext e.tr e.p e.b e.a, e.pr)
/-- in its place, or at the end -/
def putE (es : List Ent) (e : Ent) : List Ent := if (es.any fun x => decide (x.n = e.n)) = true then es.map (fun x => if x.n = e.n then e else x) else es ++ [e]
def hasE (es : List Ent) (n : Str) : Bool := es.any fun x => decide (x.n = n)
theorem hasE_iff {es : List Ent} {n : Str} : hasE es n = true ↔ n ∈ es.map (·.n) := by
  unfold hasE
  rw [List.any_eq_true, List.mem_map]
  exact ⟨fun ⟨x, h1, h2⟩ => ⟨x, h1, of_decide_eq_true h2⟩, fun ⟨x, h1, h2⟩ => ⟨x, h1, decide_eq_true h2⟩⟩
theorem putE_len (es : List Ent) (e : Ent) : (putE es e).length = if hasE es e.n = true then es.length else es.length + 1 := by
  unfold putE hasE
  split <;> simp
theorem putE_names (es : List Ent) (e : Ent) : (putE es e).map (·.n) = if hasE es e.n = true then es.map (·.n) else es.map (·.n) ++ [e.n] := by
  unfold putE hasE
  split
  · rw [List.map_map]
    refine List.map_congr_left fun x _ => ?_
    show (if x.n = e.n then e else x).n = x.n
    split
    · rename_i h; exact h.symm
    · rfl
  · simp
theorem putE_nodup {es : List Ent} {e : Ent} (h : (es.map (·.n)).Nodup) : ((putE es e).map (·.n)).Nodup := by
  rw [putE_names]
  split
  · exact h
  · rename_i q
    refine List.nodup_append.mpr ⟨h, by simp, fun x hx y hy z => ?_⟩
    rw [List.mem_singleton] at hy
    subst hy z
    exact q (hasE_iff.mpr hx)
theorem putE_mem {es : List Ent} {e x : Ent} : x ∈ putE es e ↔ x = e ∨ (x ∈ es ∧ x.n ≠ e.n) := by
  unfold putE
  split
  · rename_i q
    obtain ⟨y, hy, he⟩ := List.any_eq_true.mp q
    have he := of_decide_eq_true he
    rw [List.mem_map]
    constructor
    · rintro ⟨z, hz, rfl⟩
      split
      · exact .inl rfl
      · rename_i h; exact .inr ⟨hz, h⟩
    · rintro (rfl | ⟨h1, h2⟩)
      · exact ⟨y, hy, if_pos he⟩
      · exact ⟨x, h1, if_neg h2⟩
  · rename_i q
    rw [List.mem_append, List.mem_singleton]
    constructor
    · rintro (h | rfl)
      · exact .inr ⟨h, fun z => q (List.any_eq_true.mpr ⟨x, h, decide_eq_true z⟩)⟩
      · exact .inl rfl
    · rintro (rfl | ⟨h1, _⟩)
      · exact .inr rfl
      · exact .inl h1
/-- st is the state of the items es -/
def IsSt (es : List Ent) (st : List Row) : Prop := Strict st ∧ ∀ x, x ∈ st ↔ x ∈ es.map Ent.row
theorem IsSt.uniq {es : List Ent} {st st' : List Row} (h : IsSt es st) (h' : IsSt es st') : st = st' := strict_uniq h.1 h'.1 fun x => (h.2 x).trans (h'.2 x).symm
theorem row_name {es : List Ent} : (es.map Ent.row).map (·.1) = es.map (·.n) := by rw [List.map_map]; rfl
theorem IsSt.names {es : List Ent} {st : List Row} (h : IsSt es st) (n : Str) : n ∈ st.map (·.1) ↔ hasE es n = true := by
  rw [hasE_iff, ← row_name, List.mem_map, List.mem_map]
  exact ⟨fun ⟨x, h1, h2⟩ => ⟨x, (h.2 x).mp h1, h2⟩, fun ⟨x, h1, h2⟩ => ⟨x, (h.2 x).mpr h1, h2⟩⟩
theorem IsSt.len {es : List Ent} {st : List Row} (h : IsSt es st) (nd : (es.map (·.n)).Nodup) : st.length = es.length := by
  have n1 : st.Nodup := List.Pairwise.of_map _ (fun a b h e => h (congrArg _ e)) (strict_names h.1)
  have n2 : (es.map Ent.row).Nodup := by
    have q : ((es.map Ent.row).map (·.1)).Nodup := by rw [row_name]; exact nd
    exact List.Pairwise.of_map _ (fun a b h e => h (congrArg _ e)) q
  have pm : st.Perm (es.map Ent.row) := (List.perm_ext_iff_of_nodup n1 n2).mpr h.2
  rw [pm.length_eq, List.length_map]
/-- the state with a row, made by sorting -/
theorem IsSt.with {es : List Ent} {st : List Row} {e : Ent} {rs : List RowT} (h : IsSt es st) (hr : rs.map (·.2) = st.filter (fun x => decide (x.1 ≠ e.n)) ++ [e.row]) : IsSt (putE es e) ((rs.mergeSort rowLe).map (·.2)) := by
  have pm : (rs.mergeSort rowLe).Perm rs := List.mergeSort_perm _ _
  refine ⟨sort_strict ?_, fun x => ?_⟩
  · have q : (rs.map fun r => r.2.1) = (rs.map (·.2)).map (·.1) := by rw [List.map_map]; rfl
    rw [q, hr, List.map_append]
    refine List.nodup_append.mpr ⟨?_, by simp, fun x hx y hy z => ?_⟩
    · exact ((strict_names h.1).sublist ((List.filter_sublist).map _))
    · rw [List.map_singleton, List.mem_singleton] at hy
      subst hy z
      obtain ⟨r, hr, e2⟩ := List.mem_map.mp hx
      exact of_decide_eq_true (List.mem_filter.mp hr).2 e2
  · rw [(pm.map _).mem_iff, hr, List.mem_append, List.mem_singleton, List.mem_filter, List.mem_map]
    constructor
    · rintro (⟨h1, h2⟩ | rfl)
      · obtain ⟨y, hy, rfl⟩ := List.mem_map.mp ((h.2 x).mp h1)
        exact ⟨y, putE_mem.mpr (.inr ⟨hy, of_decide_eq_true h2⟩), rfl⟩
      · exact ⟨e, putE_mem.mpr (.inl rfl), rfl⟩
    · rintro ⟨y, hy, rfl⟩
      rcases putE_mem.mp hy with rfl | ⟨h1, h2⟩
      · exact .inr rfl
      · exact .inl ⟨(h.2 _).mpr (List.mem_map.mpr ⟨y, h1, rfl⟩), decide_eq_true h2⟩

def spWhole : Sp := fun vs H Q _ => ∃ (v : V) (t : String), vs = [v] ∧ NT H v t ∧ Q (.bl (t == "int")) H
theorem ok_is_whole (T : Txt K mg) : FnOk P w K mg base CX0 1 T.a_is_whole T.fd_is_whole ["value"] spWhole := by
  refine T.F_is_whole.ok sc_is_whole (fun vs H Q E h => ?_) (fun cdv A outer s H vs Q E hr h => ?_)
  · obtain ⟨v, t, rfl, _⟩ := h; rfl
  · obtain ⟨v, t, rfl, ht, k⟩ := h
    obtain ⟨b1, b2, h1, h2, h3⟩ := ht.kit
    refine ⟨_, pss_one (ps_ret (pe_and (pe_callB call_isi (by rfl) T.n_isinstance (by decide +kernel) (pa_cons (pv 0) (pa_cons (pe_bltn (v := .ty "int") (u := .type "int") (by rfl) T.n_int (by decide +kernel) rfl) (pa_nil)))) (pe_one (pe_not (pe_callB call_isi (by rfl) T.n_isinstance (by decide +kernel) (pa_cons (pv 0) (pa_cons (pe_bltn (v := .ty "bool") (u := .type "bool") (by rfl) T.n_bool (by decide +kernel) rfl) (pa_nil)))))))), ?_⟩
    refine ⟨_, rfl, v, .ty "int", .type t, .type "int", b1, rfl, .ty _, ht.ty, kit_ty h1, b1, rfl, ?_⟩
    rw [← h3] at k
    cases b1 with
    | false => exact iteF k
    | true => exact iteT ⟨_, rfl, v, .ty "bool", .type t, .type "bool", b2, rfl, .ty _, ht.ty, kit_ty h2, b2, rfl, k⟩

/-- whether v is an integer between the two -/
def betB (lo hi : Int) : V → Bool
  | .int i => decide (lo ≤ i ∧ i ≤ hi)
  | _ => false
def spBetK : Sp := fun vs H Q _ => ∃ (v : V) (t : String) (lo hi : Int), vs = [v, .int lo, .int hi] ∧ NT H v t ∧ Q (.bl (betB lo hi v)) H
theorem betB_no {H : Hp} {v : V} {t : String} {lo hi : Int} (h : NT H v t) (n : (t == "int") = false) : betB lo hi v = false := by
  cases h <;> first | rfl | cases n
theorem ok_is_between (T : Txt K mg) : FnOk P w K mg base CX0 2 T.a_is_between T.fd_is_between ["value", "low", "high"] spBetK := by
  refine T.F_is_between.ok sc_is_between (fun vs H Q E h => ?_) (fun cdv A outer s H vs Q E hr h => ?_)
  · obtain ⟨v, t, lo, hi, rfl, _⟩ := h; rfl
  · obtain ⟨v, t, lo, hi, rfl, ht, k⟩ := h
    refine ⟨_, pss_one (ps_ret (pe_and (pe_call (ok_is_whole T) (hr.mono (by decide)) rfl T.m_is_whole T.F_is_whole.kp (b_is_whole T) .nil pass0 (pa_cons (pv 0) (pa_nil))) (pe_one (pe_chain op_le op_le (pv 1) (pv 0) (pv 2))))), ?_⟩
    refine ⟨_, rfl, v, t, rfl, ht, (t == "int"), rfl, ?_⟩
    cases e : (t == "int") with
    | false => rw [betB_no ht e] at k; exact iteF k
    | true =>
      obtain ⟨v, rfl⟩ := ht.isInt (beq_iff_eq.mp e)
      refine iteT ⟨_, rfl, _, rfl, _, _, rfl, rfl, _, rfl, ?_⟩
      refine ite2 (fun hc => ?_) (fun hc => ?_)
      · have hc := of_decide_eq_true hc
        refine ⟨_, rfl, _, _, rfl, rfl, ?_⟩
        refine Eq.mpr (congrArg (fun b => Q (V.bl b) _) ?_) k
        show _ = decide _
        rw [decide_eq_decide]
        exact ⟨fun z => ⟨hc, z⟩, fun z => z.2⟩
      · have hc : ¬ lo ≤ v := fun z => hc (decide_eq_true z)
        refine Eq.mpr (congrArg (fun b => Q (V.bl b) _) ?_) k
        exact (decide_eq_false fun z => hc z.1).symm
/-- a part is in order, or BadWheel tells its name -/
def spNeed (C : Addr) : Sp := fun vs H Q E => ∃ (v : V) (t : String) (lo : Int) (pt : Str), vs = [v, .int lo, .str pt] ∧ NT H v t ∧
  if betB lo 1000000000000 v = true then Q .non H else ∀ (d : Addr) (H2 : Hp), Same H H2 → H d = Option.none → H2 d = some (.xd [("part", .str pt)]) → E (.ref C) (some d) H2
theorem ok_need_part (T : Txt K mg) : FnOk P w K mg base (L2.CX P w) 3 T.a_need_part T.fd_need_part ["value", "least", "part"] (spNeed T.bad.C) := by
  refine T.F_need_part.okX sc_need_part (fun vs H Q E h => ?_) (fun cdv A outer s H vs Q E hr h => ?_)
  · obtain ⟨v, t, lo, pt, rfl, _⟩ := h; rfl
  · obtain ⟨v, t, lo, pt, rfl, ht, k⟩ := h
    refine ⟨_, pss_one (ps_if (pt_not (pt_val (pe_call (ok_is_between T) (hr.mono (by decide)) rfl T.m_is_between T.F_is_between.kp (b_is_between T) .nil pass0 (pa_cons (pv 0) (pa_cons (pv 1) (pa_cons (pe_glob (v := .int 1000000000000) rfl T.m_MP T.r_MP) (pa_nil))))))) (pss_one (ps_raise rfl (takes_of rfl rfl rfl rfl) (pmk_badW T.bad (hr.mono (by decide)) rfl (pv 2)))) (pss_nil)), ?_⟩
    refine ⟨_, rfl, _, rfl, v, t, lo, 1000000000000, rfl, ht, _, rfl, ?_⟩
    cases e : betB lo 1000000000000 v with
    | true => rw [e] at k; exact iteF k
    | false =>
      rw [e] at k
      refine iteT ⟨_, rfl, (by show 1 ≤ 1000; decide), fun a ha => badW_fin T.bad ha fun d H2 s2 hd h2 => k d H2 s2 hd h2⟩

/-- an instance with the three parts -/
def WhAt (H : Hp) (C x : Addr) (p b a : Int) : Prop := ∃ dx, H x = some (.ins C dx [("period", .int p), ("back", .int b), ("ahead", .int a)])
theorem WhAt.same {H H' : Hp} {C x : Addr} {p b a : Int} (s : Same H H') (h : WhAt H C x p b a) : WhAt H' C x p b a := h.elim fun dx h => ⟨dx, s _ _ h⟩
/-- what is in order, or the first part that is not -/
def okParts (lo : List Int) (vs : List V) (pts : List Str) : Option Str := ((lo.zip (vs.zip pts)).find? fun q => !betB q.1 1000000000000 q.2.1).map (·.2.2)
/-- what a class of wheels must have -/
structure WCls (K : PySem.W.Frag) (C : Addr) : Prop where
  cls : Cls K C
  na : ∀ y ∈ (["period", "back", "ahead"] : List Str), NoAttr K C y
def ErrP (H : Hp) (C : Addr) (E : XK) (pt : Str) : Prop := ∀ (d : Addr) (H2 : Hp), Same H H2 → H d = Option.none → H2 d = some (.xd [("part", .str pt)]) → E (.ref C) (some d) H2
theorem ErrP.same {H H' : Hp} {C : Addr} {E : XK} {pt : Str} (s : Same H H') (f : ∀ d, H' d = Option.none → H d = Option.none) (h : ErrP H C E pt) : ErrP H' C E pt := fun d H2 s2 hd h2 => h d H2 (s.trans s2) (f d hd) h2
/-- Wheel.__init__, of an instance of any class of wheels -/
def spWheelInit (K : PySem.W.Frag) (B : Addr) : Sp := fun vs H Q E => ∃ (x C dx : Addr) (p b a : V) (tp tb ta : String), vs = [.ref x, p, b, a] ∧ WCls K C ∧ H x = some (.ins C dx []) ∧ NT H p tp ∧ NT H b tb ∧ NT H a ta ∧
  (betB 2 1000000000000 p = false → ErrP H B E "period") ∧
  (betB 2 1000000000000 p = true → betB 0 1000000000000 b = false → ErrP H B E "back") ∧
  (betB 2 1000000000000 p = true → betB 0 1000000000000 b = true → betB 0 1000000000000 a = false → ErrP H B E "ahead") ∧
  (∀ i j k : Int, p = .int i → b = .int j → a = .int k → 2 ≤ i → i ≤ 1000000000000 → 0 ≤ j → j ≤ 1000000000000 → 0 ≤ k → k ≤ 1000000000000 → Q .non (upd H x (.ins C dx [("period", .int i), ("back", .int j), ("ahead", .int k)])))
theorem betB_get {lo hi : Int} {v : V} (h : betB lo hi v = true) : ∃ i, v = .int i ∧ lo ≤ i ∧ i ≤ hi := by
  cases v with
  | int i => exact ⟨i, rfl, of_decide_eq_true h⟩
  | _ => cases h
theorem ok_Wheel_init (T : Txt K mg) : FnOk P w K mg base (L2.CX P w) 4 T.a_Wheel_init T.fd_Wheel_init ["self", "period", "back", "ahead"] (spWheelInit K T.bad.C) := by
  refine T.F_Wheel_init.okX sc_Wheel_init (fun vs H Q E h => ?_) (fun cdv A outer s H vs Q E hr h => ?_)
  · obtain ⟨x, C, dx, p, b, a, tp, tb, ta, rfl, _⟩ := h; rfl
  · obtain ⟨x, C, dx, p, b, a, tp, tb, ta, rfl, cW, hx, hp, hb, ha, e1, e2, e3, k⟩ := h
    refine ⟨_, pss_cons (ps_expr (pe_call (ok_need_part T) (hr.mono (by decide)) rfl T.m_need_part T.F_need_part.kp (b_need_part T) .nil (passes_call (takes_of rfl rfl rfl rfl) (fun _ _ _ _ h => h)) (pa_cons (pv 1) (pa_cons (pe_int) (pa_cons (pe_str) (pa_nil))))))
      (pss_cons (ps_expr (pe_call (ok_need_part T) (hr.mono (by decide)) rfl T.m_need_part T.F_need_part.kp (b_need_part T) .nil (passes_call (takes_of rfl rfl rfl rfl) (fun _ _ _ _ h => h)) (pa_cons (pv 2) (pa_cons (pe_int) (pa_cons (pe_str) (pa_nil))))))
      (pss_cons (ps_expr (pe_call (ok_need_part T) (hr.mono (by decide)) rfl T.m_need_part T.F_need_part.kp (b_need_part T) .nil (passes_call (takes_of rfl rfl rfl rfl) (fun _ _ _ _ h => h)) (pa_cons (pv 3) (pa_cons (pe_int) (pa_cons (pe_str) (pa_nil))))))
      (pss_cons (ps_fld (pv 0) (pv 1) rfl)
      (pss_cons (ps_fld (pv 0) (pv 2) rfl)
      (pss_one (ps_fld (pv 0) (pv 3) rfl)))))), ?_⟩
    refine ⟨_, rfl, p, tp, 2, "period", rfl, hp, ?_⟩
    refine ite2 (fun h1 => ?_) (fun h1 => e1 (Bool.eq_false_iff.mpr h1))
    refine ⟨_, rfl, b, tb, 0, "back", rfl, hb, ?_⟩
    refine ite2 (fun h2 => ?_) (fun h2 => e2 h1 (Bool.eq_false_iff.mpr h2))
    refine ⟨_, rfl, a, ta, 0, "ahead", rfl, ha, ?_⟩
    refine ite2 (fun h3 => ?_) (fun h3 => e3 h1 h2 (Bool.eq_false_iff.mpr h3))
    obtain ⟨i, rfl, i1, i2⟩ := betB_get h1
    obtain ⟨j, rfl, j1, j2⟩ := betB_get h2
    obtain ⟨l, rfl, l1, l2⟩ := betB_get h3
    refine ⟨_, rfl, _, rfl, x, C, dx, _, rfl, hx, cW.cls, cW.na _ (by simp), (by show 0 < 1000; decide), ?_⟩
    refine ⟨_, rfl, _, rfl, x, C, dx, _, rfl, upd_same, cW.cls, cW.na _ (by simp), (by show 1 < 1000; decide), ?_⟩
    refine ⟨_, rfl, _, rfl, x, C, dx, _, rfl, upd_same, cW.cls, cW.na _ (by simp), (by show 2 < 1000; decide), ?_⟩
    refine Eq.mpr (congrArg (Q V.non) ?_) (k i j l rfl rfl rfl i1 i2 j1 j2 l1 l2)
    funext y
    unfold upd
    split <;> rfl

def spOneInit (K : PySem.W.Frag) (B D f2 : Addr) : Sp := fun vs H Q E => ∃ (x C dx : Addr) (p : V) (tp : String), vs = [.ref x, p] ∧ WCls K C ∧ SupAt K C D f2 "__init__" ∧ H x = some (.ins C dx []) ∧ NT H p tp ∧
  (betB 2 1000000000000 p = false → ErrP H B E "period") ∧
  (∀ i : Int, p = .int i → 2 ≤ i → i ≤ 1000000000000 → Q .non (upd H x (.ins C dx [("period", .int i), ("back", .int 0), ("ahead", .int 0)])))
theorem ok_Exact_init (HP : PrF lawFile P) (T : Txt K mg) : FnOk P w K mg base (L2.CX P w) 5 T.a_Exact_init T.fd_Exact_init ["self", "period"] (spOneInit K T.bad.C T.a_Exact T.a_Wheel_init) := by
  refine T.F_Exact_init.okX sc_Exact_init T.so_Exact_init (fun vs H Q E h => ?_) (fun A outer s H vs Q E hr h => ?_)
  · obtain ⟨x, C, dx, p, tp, rfl, _⟩ := h; rfl
  · obtain ⟨x, C, dx, p, tp, rfl, cW, sa, hx, hp, e1, k⟩ := h
    refine ⟨_, psup_super (T.so_Exact_init.of HP T.F_Exact_init rfl) ((ok_Wheel_init T).raw (b_Wheel_init T) .nil) (hr.mono (by decide)) (passes_call (takes_of rfl rfl rfl rfl) (fun _ _ _ _ h => h)) (pa_cons (pv 1) (pa_cons pe_int (pa_cons pe_int pa_nil))) rfl rfl rfl rfl rfl rfl rfl, ?_⟩
    have z0 : betB 0 1000000000000 (.int 0) = true := by decide
    refine ⟨x, C, dx, [], rfl, hx, sa, _, rfl, x, C, dx, p, .int 0, .int 0, tp, "int", "int", rfl, cW, hx, hp, .int _, .int _, e1, fun _ z => absurd (z0.symm.trans z) (by decide), fun _ _ z => absurd (z0.symm.trans z) (by decide), fun i' j' l' q1 q2 q3 i1 i2 _ _ _ _ => ?_⟩
    subst q1
    cases q2; cases q3
    exact k i' rfl i1 i2
theorem ok_Grid_init (HP : PrF lawFile P) (T : Txt K mg) : FnOk P w K mg base (L2.CX P w) 5 T.a_Grid_init T.fd_Grid_init ["self", "period"] (spOneInit K T.bad.C T.a_Grid T.a_Wheel_init) := by
  refine T.F_Grid_init.okX sc_Grid_init T.so_Grid_init (fun vs H Q E h => ?_) (fun A outer s H vs Q E hr h => ?_)
  · obtain ⟨x, C, dx, p, tp, rfl, _⟩ := h; rfl
  · obtain ⟨x, C, dx, p, tp, rfl, cW, sa, hx, hp, e1, k⟩ := h
    refine ⟨_, psup_super (T.so_Grid_init.of HP T.F_Grid_init rfl) ((ok_Wheel_init T).raw (b_Wheel_init T) .nil) (hr.mono (by decide)) (passes_call (takes_of rfl rfl rfl rfl) (fun _ _ _ _ h => h)) (pa_cons (pv 1) (pa_cons pe_int (pa_cons pe_int pa_nil))) rfl rfl rfl rfl rfl rfl rfl, ?_⟩
    have z0 : betB 0 1000000000000 (.int 0) = true := by decide
    refine ⟨x, C, dx, [], rfl, hx, sa, _, rfl, x, C, dx, p, .int 0, .int 0, tp, "int", "int", rfl, cW, hx, hp, .int _, .int _, e1, fun _ z => absurd (z0.symm.trans z) (by decide), fun _ _ z => absurd (z0.symm.trans z) (by decide), fun i' j' l' q1 q2 q3 i1 i2 _ _ _ _ => ?_⟩
    subst q1
    cases q2; cases q3
    exact k i' rfl i1 i2

/-- def f(p1, *v) of the text, which may raise -/
theorem star1_okX {x qual p1 pv : Str} {k : Nat} {st : Stmt} {f : Addr} {fd : FuncData} {N : List Str} {sp : V → List V → Hp → VK → XK → Prop} (F : Fun K x qual st f fd) (S : FnScope N [p1, pv] (defScope st))
    (hb : ∀ (kV doc pm : Value) (an : Option Addr) (cdv ct : Value) (a : Value) (rest : List Value), bindArgs (PySem.W.fnOf x qual (defArgs st) (defBody st) (defScope st) .none kV doc pm an cdv ct) ⟨a :: rest, []⟩ = (newTuple rest >>= fun t => pure [(p1, a), (pv, t)]))
    (go : ∀ (cdv : Value) (A : Around) (outer : List Env) (s : Shared) (H : Hp) (a : V) (vs : List V) (p : Addr) (H0 : Hp) (Q : VK) (E : XK), Room k (A.deeper (envOfC qual (defScope st) s.heap.objs.size f cdv)) → sp a vs H0 Q E → vs.length ≤ sizeLine → H0 p = Option.none → H = upd H0 p (.tup vs) →
      ∃ t, PSs (cxOf (L2.CX P w) P w K mg base N qual (defScope st) f cdv A outer s H E) (defBody st) t ∧ t { nx := fun _ H1 => Q .non H1, rt := Q } (start N [a, V.ref p]) H) :
    FnR P w K mg base (L2.CX P w) (k + 1) f (fun vs H Q E => ∃ a rest, vs = a :: rest ∧ rest.length ≤ sizeLine ∧ sp a rest H Q E) := by
  obtain ⟨oc, od, kV, doc, pm, an, cdv, ct, osl, rfl, lk, hcd⟩ := F.ex
  refine FnR.imp (StX.fn_star (ps := [p1]) (pv := pv) (CX := L2.CX P w) (sp := fun ws H Q E => ∃ (a : V) (vs : List V) (p : Addr) (H0 : Hp), ws = [a, V.ref p] ∧ sp a vs H0 Q E ∧ vs.length ≤ sizeLine ∧ H0 p = Option.none ∧ H = upd H0 p (.tup vs)) lk hcd S StX.cxUp (fun us rest hl => ?_) fun A outer s H vs Q E hr h => ?_) fun vs H Q E h => ?_
  · match us, hl with
    | [a], _ =>
      show bindArgs _ { pos := a :: rest, kw := [] } = _
      rw [hb]
      rfl
  · obtain ⟨a, ws, p, H0, rfl, hs, hl, hp, rfl⟩ := h
    exact go cdv A outer s _ a ws p H0 Q E hr hs hl hp rfl
  · obtain ⟨a, rest, rfl, hl, hs⟩ := h
    exact ⟨[a], rest, rfl, rfl, hl, fun p hp => ⟨a, rest, p, H, rfl, hs, hl, hp, rfl⟩⟩

/-- what is read off a wheel of the class at C -/
structure WPr (T : Txt K mg) (C : Addr) (tr : Bool) : Prop where
  w : WCls K C
  con : ∃ u, Con K C "TRUSTED" (.bl tr) u
/-- what the text has of one class of wheels -/
structure WhC (T : Txt K mg) (C f : Addr) (tr : Bool) : Prop where
  w : WPr T C tr
  ty : ∀ (H : Hp) (a dx : Addr) (fs : List (Str × V)), H a = some (.ins C dx fs) → TyX K H (.ref a) (.ref C)
  wh : PySem.W.kitOne K (.ref C) (.ref T.a_Wheel) = some true
  mkr : Mk K C f
  str : PySem.W.findIn K (.ref C) "__str__" = some (some (.ref T.a_Wheel_str))
/-- what it has of the three -/
structure Whl (T : Txt K mg) : Prop where
  W : WhC T T.a_Wheel T.a_Wheel_init false
  X : WhC T T.a_Exact T.a_Exact_init false
  G : WhC T T.a_Grid T.a_Grid_init true
  sX : SupAt K T.a_Exact T.a_Exact T.a_Wheel_init "__init__"
  sG : SupAt K T.a_Grid T.a_Grid T.a_Wheel_init "__init__"
  fnS : PySem.W.isFn K (.ref T.a_Wheel_str) = true
  no : ∀ t ∈ (["NoneType", "str", "int"] : List String), PySem.W.kitOne K (.type t) (.ref T.a_Wheel) = some false
/-- at y a wheel with these parts, of one of the classes -/
def WhE (T : Txt K mg) (H : Hp) (y : Addr) (tr : Bool) (p b a : Int) : Prop := ∃ C f, WhC T C f tr ∧ WhAt H C y p b a
theorem WhE.same {T : Txt K mg} {H H' : Hp} {y : Addr} {tr : Bool} {p b a : Int} (s : Same H H') (h : WhE T H y tr p b a) : WhE T H' y tr p b a := by
  obtain ⟨C, f, h1, h3⟩ := h
  exact ⟨C, f, h1, h3.same s⟩
theorem mk_same {H : Hp} {x dx C : Addr} {fs : List (Str × V)} (hx : H x = Option.none) (hdx : H dx = Option.none) : Same H (upd (upd (upd H dx (.own x)) x (.ins C dx [])) x (.ins C dx fs)) := fun b o e => by
  rw [upd_ne (ne_of_none e hx), upd_ne (ne_of_none e hx), upd_ne (ne_of_none e hdx)]
  exact e
section
variable {H : Hp} {x dx : Addr} {Qv : VK} {E : XK} {p b a : Int}
theorem okW (T : Txt K mg) (W : Whl T) (hx : H x = Option.none) (hdx : H dx = Option.none) (hp : 2 ≤ p ∧ p ≤ 1000000000000) (hb : 0 ≤ b ∧ b ≤ 1000000000000) (ha : 0 ≤ a ∧ a ≤ 1000000000000) (k : ∀ H', Same H H' → WhAt H' T.a_Wheel x p b a → Qv .non H') :
    spWheelInit K T.bad.C [.ref x, .int p, .int b, .int a] (upd (upd H dx (.own x)) x (.ins T.a_Wheel dx [])) Qv E := by
  refine ⟨x, T.a_Wheel, dx, _, _, _, _, _, _, rfl, W.W.w.w, upd_same, .int _, .int _, .int _, fun z => absurd ((decide_eq_true hp).symm.trans z) (by decide), fun _ z => absurd ((decide_eq_true hb).symm.trans z) (by decide), fun _ _ z => absurd ((decide_eq_true ha).symm.trans z) (by decide), ?_⟩
  intro i j l e1 e2 e3 _ _ _ _ _ _
  cases e1; cases e2; cases e3
  exact k _ (mk_same hx hdx) ⟨dx, upd_same⟩
theorem okX (T : Txt K mg) (W : Whl T) (hx : H x = Option.none) (hdx : H dx = Option.none) (hp : 2 ≤ p ∧ p ≤ 1000000000000) (k : ∀ H', Same H H' → WhAt H' T.a_Exact x p 0 0 → Qv .non H') :
    spOneInit K T.bad.C T.a_Exact T.a_Wheel_init [.ref x, .int p] (upd (upd H dx (.own x)) x (.ins T.a_Exact dx [])) Qv E := by
  refine ⟨x, T.a_Exact, dx, _, _, rfl, W.X.w.w, W.sX, upd_same, .int _, fun z => absurd ((decide_eq_true hp).symm.trans z) (by decide), ?_⟩
  intro i e1 _ _
  cases e1
  exact k _ (mk_same hx hdx) ⟨dx, upd_same⟩
theorem okG (T : Txt K mg) (W : Whl T) (hx : H x = Option.none) (hdx : H dx = Option.none) (hp : 2 ≤ p ∧ p ≤ 1000000000000) (k : ∀ H', Same H H' → WhAt H' T.a_Grid x p 0 0 → Qv .non H') :
    spOneInit K T.bad.C T.a_Grid T.a_Wheel_init [.ref x, .int p] (upd (upd H dx (.own x)) x (.ins T.a_Grid dx [])) Qv E := by
  refine ⟨x, T.a_Grid, dx, _, _, rfl, W.G.w.w, W.sG, upd_same, .int _, fun z => absurd ((decide_eq_true hp).symm.trans z) (by decide), ?_⟩
  intro i e1 _ _
  cases e1
  exact k _ (mk_same hx hdx) ⟨dx, upd_same⟩
end
/-- the parts of a wheel that stands -/
structure Parts (tr : Bool) (p b a : Int) : Prop where
  hp : 2 ≤ p ∧ p ≤ 1000000000000
  hb : 0 ≤ b ∧ b ≤ 1000000000000
  ha : 0 ≤ a ∧ a ≤ 1000000000000
  ht : tr = true → b = 0 ∧ a = 0
theorem slen (a b : Str) : (a ++ b).length = a.length + b.length := by
  show (a.cps ++ b.cps).size = _
  rw [Array.size_append]
  rfl
/-- the text of a wheel, whichever it is -/
def spWheelStr (T : Txt K mg) : Sp := fun vs H Q _ => ∃ (x : Addr) (p b a : Int) (tr : Bool), vs = [.ref x] ∧ WhE T H x tr p b a ∧ Parts tr p b a ∧ Q (.str (NX.wtext tr p b a)) H
theorem ok_Wheel_str (T : Txt K mg) : FnOk P w K mg base CX0 1 T.a_Wheel_str T.fd_Wheel_str ["self"] (spWheelStr T) := by
  refine T.F_Wheel_str.ok sc_Wheel_str (fun vs H Q E h => ?_) (fun cdv A outer s H vs Q E hr h => ?_)
  · obtain ⟨x, p, b, a, tr, rfl, _⟩ := h; rfl
  · obtain ⟨x, p, b, a, tr, rfl, ⟨C, f, cW, dx, hx⟩, pa, k⟩ := h
    obtain ⟨u, hu⟩ := cW.w.con
    refine ⟨_, pss_cons (ps_if (pt_val (pe_con (pv 0) rfl)) (pss_one (ps_ret (pe_joinedT (PJ.cons (pe_str) (PJ.cons (pe_fmt (pe_fld (pv 0) rfl)) (PJ.nil)))))) (pss_nil))
      (pss_one (ps_ret (pe_joinedT (PJ.cons (pe_str) (PJ.cons (pe_fmt (pe_fld (pv 0) rfl)) (PJ.cons (pe_str) (PJ.cons (pe_fmt (pe_fld (pv 0) rfl)) (PJ.cons (pe_str) (PJ.cons (pe_fmt (pe_fld (pv 0) rfl)) (PJ.nil)))))))))), ?_⟩
    have L : ∀ i : Int, 0 ≤ i → i ≤ 1000000000000 → i.natAbs.log2 < 1920 ∧ (Str.ofString (toString i)).length ≤ 13 := fun i h0 h1 => ⟨Nat.lt_trans (PySem.Flt.log2_lt_of (show 0 < 64 by decide) (show i.natAbs < 2 ^ 64 by omega)) (by decide), NX.len_num h0 h1⟩
    obtain ⟨p1, p2⟩ := L p (by have := pa.hp.1; omega) pa.hp.2
    obtain ⟨b1, b2⟩ := L b pa.hb.1 pa.hb.2
    obtain ⟨a1, a2⟩ := L a pa.ha.1 pa.ha.2
    refine ⟨_, rfl, x, C, dx, _, _, u, rfl, hx, cW.w.w.cls, hu, rfl, tr, rfl, ?_⟩
    cases tr with
    | true =>
      refine ⟨_, rfl, (by decide), _, rfl, x, C, dx, _, _, rfl, hx, cW.w.w.cls, cW.w.w.na _ (by simp), rfl, .inr ⟨p, rfl, p1, _, rfl, ?_, ?_⟩⟩
      · rw [slen]
        exact Nat.le_trans (Nat.add_le_add (show _ ≤ 10 by decide) p2) (by decide)
      · show Q (.str (Str.empty ++ "grid " ++ NX.num p)) H
        rw [show (Str.empty ++ ("grid " : Str)) = "grid " by decide]
        exact k
    | false =>
      refine ⟨_, rfl, (by decide), _, rfl, x, C, dx, _, _, rfl, hx, cW.w.w.cls, cW.w.w.na _ (by simp), rfl, .inr ⟨p, rfl, p1, _, rfl, ?_, _, rfl, ?_, _, rfl, x, C, dx, _, _, rfl, hx, cW.w.w.cls, cW.w.w.na _ (by simp), rfl, .inr ⟨b, rfl, b1, _, rfl, ?_, _, rfl, ?_, _, rfl, x, C, dx, _, _, rfl, hx, cW.w.w.cls, cW.w.w.na _ (by simp), rfl, .inr ⟨a, rfl, a1, _, rfl, ?_, ?_⟩⟩⟩⟩
      case refine_6 =>
        show Q (.str (Str.empty ++ "wheel " ++ NX.num p ++ " " ++ NX.num b ++ " " ++ NX.num a)) H
        rw [show (Str.empty ++ ("wheel " : Str)) = "wheel " by decide]
        exact k
      all_goals
        simp only [slen]
        have z1 : ("wheel " : Str).length = 6 := by decide
        have z2 : (" " : Str).length = 1 := by decide
        have z0 : (Str.empty : Str).length = 0 := by decide
        rw [sizeLine_eq]
        omega
theorem str_of {T : Txt K mg} {H : Hp} {y : Addr} {tr : Bool} {p b a : Int} {Q : VK} {E : XK} (h : WhE T H y tr p b a) (pa : Parts tr p b a) (k : Q (.str (NX.wtext tr p b a)) H) : rStrW K T.a_Wheel_str (spWheelStr T) E [.ref y] H Q := by
  obtain ⟨C, f, wc, dx, hx⟩ := id h
  exact ⟨y, C, dx, _, rfl, hx, wc.str, y, p, b, a, tr, rfl, h, pa, _, rfl, k⟩
/-- whether v is a name -/
def nameB : V → Bool
  | .str z => decide (1 ≤ (z.length : Int) ∧ (z.length : Int) ≤ 8) && (Txt.isascii z && (Txt.isalpha z && Txt.islower z))
  | _ => false
def spName : Sp := fun vs H Q _ => ∃ (v : V) (t : String), vs = [v] ∧ NT H v t ∧ (∀ z, v = .str z → z.length ≤ sizeLine) ∧ Q (.bl (nameB v)) H
theorem ok_is_name (T : Txt K mg) : FnOk P w K mg base CX0 1 T.a_is_name T.fd_is_name ["value"] spName := by
  refine T.F_is_name.ok sc_is_name (fun vs H Q E h => ?_) (fun cdv A outer s H vs Q E hr h => ?_)
  · obtain ⟨v, t, rfl, _⟩ := h; rfl
  · obtain ⟨v, t, rfl, ht, hl, k⟩ := h
    refine ⟨_, pss_cons (ps_if (PW.pt (pw_or (pt_not (pt_val (pe_callB call_isi (by rfl) T.n_isinstance (by decide +kernel) (pa_cons (pv 0) (pa_cons (pe_bltn (v := .ty "str") (u := .type "str") (by rfl) T.n_str (by decide +kernel) rfl) (pa_nil)))))) (pw_or1 (pt_not (pt_chain op_le op_le pe_int (pe_callB call_len_str (by rfl) T.n_len (by decide +kernel) (pa_cons (pv 0) (pa_nil))) (pe_glob (v := .int 8) rfl T.m_ML T.r_ML)))))) (pss_one (ps_ret (pe_bl))) (pss_nil))
      (pss_one (ps_ret (pe_and (pe_m0 PySem.F.slot_str_isascii PySem.F.type_str_isascii mt_isascii (pv 0)) (pe_and (pe_m0 PySem.F.slot_str_isalpha PySem.F.type_str_isalpha mt_isalpha (pv 0)) (pe_one (pe_m0 PySem.F.slot_str_islower PySem.F.type_str_islower mt_islower (pv 0))))))), ?_⟩
    have hS : kitB t "str" = some (t == "str") := by cases ht <;> decide +kernel
    refine ⟨_, rfl, v, .ty "str", .type t, .type "str", (t == "str"), rfl, .ty _, ht.ty, kit_ty hS, _, rfl, ?_⟩
    cases e : (t == "str") with
    | false =>
      have : nameB v = false := by cases ht <;> first | rfl | cases e
      rw [this] at k
      exact iteT (iteT k)
    | true =>
      obtain ⟨z, rfl⟩ : ∃ z, v = .str z := by cases ht <;> first | exact ⟨_, rfl⟩ | cases e
      refine iteF ?_
      refine ⟨_, rfl, z, rfl, hl z rfl, _, _, rfl, rfl, ?_⟩
      refine ⟨_, rfl, ?_⟩
      by_cases h1 : (1 : Int) ≤ z.length
      · refine if_true_of (decide_eq_true h1) ⟨_, _, rfl, rfl, _, rfl, ?_⟩
        by_cases h2 : (z.length : Int) ≤ 8
        · refine if_false_of (by rw [decide_eq_true h2]; rfl) ?_
          have hn : nameB (.str z) = (Txt.isascii z && (Txt.isalpha z && Txt.islower z)) := by
            show (decide (1 ≤ (z.length : Int) ∧ (z.length : Int) ≤ 8) && _) = _
            rw [decide_eq_true ⟨h1, h2⟩, Bool.true_and]
          rw [hn] at k
          refine ⟨_, rfl, ⟨z, rfl⟩, z, rfl, rfl, trivial, ?_⟩
          refine ⟨_, rfl, ?_⟩
          cases h3 : Txt.isascii z with
          | false => rw [h3] at k; exact iteF k
          | true =>
            rw [h3, Bool.true_and] at k
            refine iteT ⟨_, rfl, ⟨z, rfl⟩, z, rfl, rfl, trivial, _, rfl, ?_⟩
            cases h4 : Txt.isalpha z with
            | false => rw [h4] at k; exact iteF k
            | true =>
              rw [h4, Bool.true_and] at k
              exact iteT ⟨_, rfl, ⟨z, rfl⟩, z, rfl, rfl, trivial, k⟩
        · refine if_true_of (by rw [decide_eq_false h2]; rfl) ?_
          have hn : nameB (.str z) = false := by
            show (decide (1 ≤ (z.length : Int) ∧ (z.length : Int) ≤ 8) && _) = _
            rw [decide_eq_false fun q => h2 q.2, Bool.false_and]
          rw [hn] at k
          exact k
      · refine if_false_of (decide_eq_false h1) ⟨_, rfl, if_true_of rfl ?_⟩
        have hn : nameB (.str z) = false := by
          show (decide (1 ≤ (z.length : Int) ∧ (z.length : Int) ≤ 8) && _) = _
          rw [decide_eq_false fun q => h1 q.1, Bool.false_and]
        rw [hn] at k
        exact k

/-- one entry of a dict of items -/
structure EntAt (T : Txt K mg) (H : Hp) (kv : Key × V) (e : Ent) : Prop where
  k : kv.1 = .inr e.n
  v : ∃ t y, kv.2 = .ref t ∧ H t = some (.tup [.ref y, .int e.pr]) ∧ WhE T H y e.tr e.p e.b e.a
  pa : Parts e.tr e.p e.b e.a
  pr : 0 ≤ e.pr ∧ e.pr ≤ 1000000000000
  nm : nameB (.str e.n) = true
theorem EntAt.same {T : Txt K mg} {H H' : Hp} (s : Same H H') {kv : Key × V} {e : Ent} (h : EntAt T H kv e) : EntAt T H' kv e := by
  obtain ⟨t, y, h1, h2, h3⟩ := h.v
  exact ⟨h.k, ⟨t, y, h1, s _ _ h2, h3.same s⟩, h.pa, h.pr, h.nm⟩
/-- at d the dict of these items -/
def DictAt (T : Txt K mg) (H : Hp) (d : Addr) (es : List Ent) : Prop := ∃ kvs, H d = some (.dK kvs) ∧ PySem.Paired (EntAt T H) kvs es ∧ (es.map (·.n)).Nodup ∧ es.length ≤ 8
theorem ents_same {T : Txt K mg} {H H' : Hp} (s : Same H H') : ∀ {kvs : List (Key × V)} {es : List Ent}, PySem.Paired (EntAt T H) kvs es → PySem.Paired (EntAt T H') kvs es
  | _, _, .nil => .nil
  | _, _, .cons h t => .cons (h.same s) (ents_same s t)
theorem DictAt.same {T : Txt K mg} {H H' : Hp} {d : Addr} {es : List Ent} (s : Same H H') (h : DictAt T H d es) : DictAt T H' d es := by
  obtain ⟨kvs, h1, h2, h3⟩ := h
  exact ⟨kvs, s _ _ h1, ents_same s h2, h3⟩
theorem units1 {A : Around} (h : A.units + 64 < cLine) : A.units + 1 < cLine := by omega
section
variable {T : Txt K mg} {H : Hp}
theorem ents_none : ∀ {kvs : List (Key × V)} {es : List Ent} {n : Str}, PySem.Paired (EntAt T H) kvs es → hasE es n = false → valV kvs (.inr n) = Option.none
  | _, _, _, .nil, _ => rfl
  | kv :: kvs, e :: es, n, .cons h t, q => by
    unfold hasE at q
    rw [List.any_cons, Bool.or_eq_false_iff] at q
    have ne : ¬ kv.1 = .inr n := fun z => of_decide_eq_false q.1 (by rw [h.k] at z; exact Sum.inr.inj z)
    rw [valV_neg ne]
    exact ents_none t q.2
theorem ents_some : ∀ {kvs : List (Key × V)} {es : List Ent} {n : Str}, PySem.Paired (EntAt T H) kvs es → hasE es n = true → ∃ kv e, e ∈ es ∧ e.n = n ∧ valV kvs (.inr n) = some kv.2 ∧ EntAt T H kv e
  | _, _, _, .nil, q => by cases q
  | kv :: kvs, e :: es, n, .cons h t, q => by
    by_cases z : e.n = n
    · exact ⟨kv, e, List.mem_cons_self, z, valV_pos (by rw [h.k, z]), h⟩
    · unfold hasE at q
      rw [List.any_cons, decide_eq_false z, Bool.false_or] at q
      obtain ⟨kv', e', h1, h2, h3, h4⟩ := ents_some t q
      exact ⟨kv', e', List.mem_cons_of_mem _ h1, h2, by rw [valV_neg (by rw [h.k]; exact fun y => z (Sum.inr.inj y))]; exact h3, h4⟩
theorem ents_keys : ∀ {kvs : List (Key × V)} {es : List Ent}, PySem.Paired (EntAt T H) kvs es → kvs.map (fun kv => kV kv.1) = (es.map (·.n)).map V.str
  | _, _, .nil => rfl
  | kv :: kvs, e :: es, .cons h t => by
    rw [List.map_cons, List.map_cons, List.map_cons, ents_keys t, h.k]
    rfl
theorem ents_any : ∀ {kvs : List (Key × V)} {es : List Ent} {n : Str}, PySem.Paired (EntAt T H) kvs es → (kvs.any fun kv => decide (kv.1 = .inr n)) = hasE es n
  | _, _, _, .nil => rfl
  | kv :: kvs, e :: es, n, .cons h t => by
    unfold hasE
    rw [List.any_cons, List.any_cons, ents_any t, h.k]
    unfold hasE
    congr 1
    rw [decide_eq_decide]
    exact ⟨fun z => Sum.inr.inj z, fun z => by rw [z]⟩
theorem ents_map {e0 : Ent} {v : V} : ∀ {kvs : List (Key × V)} {es : List Ent}, PySem.Paired (EntAt T H) kvs es → EntAt T H (.inr e0.n, v) e0 →
    PySem.Paired (EntAt T H) (kvs.map fun kv => if kv.1 = .inr e0.n then (kv.1, v) else kv) (es.map fun x => if x.n = e0.n then e0 else x)
  | _, _, .nil, _ => .nil
  | kv :: kvs, e :: es, .cons h t, h0 => by
    rw [List.map_cons, List.map_cons]
    refine .cons ?_ (ents_map t h0)
    by_cases z : e.n = e0.n
    · rw [if_pos (by rw [h.k, z]), if_pos z]
      rw [h.k, z]
      exact h0
    · rw [if_neg (by rw [h.k]; exact fun y => z (Sum.inr.inj y)), if_neg z]
      exact h
theorem paired_snoc {α β : Type} {R : α → β → Prop} : ∀ {as : List α} {bs : List β} {a : α} {b : β}, PySem.Paired R as bs → R a b → PySem.Paired R (as ++ [a]) (bs ++ [b])
  | _, _, _, _, .nil, h => .cons h .nil
  | _, _, _, _, .cons x t, h => .cons x (paired_snoc t h)
theorem ents_put {kvs : List (Key × V)} {es : List Ent} {e : Ent} {v : V} (h : PySem.Paired (EntAt T H) kvs es) (h0 : EntAt T H (.inr e.n, v) e) : PySem.Paired (EntAt T H) (putK kvs (.inr e.n) v) (putE es e) := by
  unfold putK putE
  rw [ents_any h]
  show PySem.Paired _ _ (if hasE es e.n = true then _ else _)
  by_cases q : hasE es e.n = true
  · rw [if_pos q, if_pos q]
    exact ents_map h h0
  · rw [if_neg q, if_neg q]
    exact paired_snoc h h0
end
/-- what one row of three is: an item, or none -/
inductive RowP (T : Txt K mg) (H : Hp) : V → V → V → Option Ent → Prop
  | good {y : Addr} (e : Ent) : nameB (.str e.n) = true → WhE T H y e.tr e.p e.b e.a → Parts e.tr e.p e.b e.a → 0 ≤ e.pr ∧ e.pr ≤ 1000000000000 → RowP T H (.str e.n) (.ref y) (.int e.pr) (some e)
  | name {nv wv pv : V} {t : String} : NT H nv t → (∀ z, nv = .str z → z.length ≤ sizeLine) → nameB nv = false → RowP T H nv wv pv Option.none
  | wheel {n : Str} {wv pv : V} {t : String} : nameB (.str n) = true → NT H wv t → t ∈ ["NoneType", "str", "int"] → RowP T H (.str n) wv pv Option.none
  | price {n : Str} {y : Addr} {tr : Bool} {p b a : Int} {pv : V} {t : String} : nameB (.str n) = true → WhE T H y tr p b a → NT H pv t → betB 0 1000000000000 pv = false → RowP T H (.str n) (.ref y) pv Option.none
theorem RowP.same {T : Txt K mg} {H H' : Hp} (s : Same H H') {nv wv pv : V} {o : Option Ent} (h : RowP T H nv wv pv o) : RowP T H' nv wv pv o := by
  cases h with
  | good e h1 h2 h3 h4 => exact .good e h1 (h2.same s) h3 h4
  | name h1 h2 h3 => exact .name (h1.same s) h2 h3
  | wheel h1 h2 h3 => exact .wheel h1 (h2.same s) h3
  | price h1 h2 h3 h4 => exact .price h1 (h2.same s) (h3.same s) h4
/-- an error of the two that a row is refused by -/
def ErrR (T : Txt K mg) (H : Hp) (E : XK) : Prop := ∀ C ∈ [T.bads.C, T.tmany.C], ∀ (dx : Addr) (fs : List (Str × V)) (H2 : Hp), Same H H2 → H dx = Option.none → H2 dx = some (.xd fs) → E (.ref C) (some dx) H2
/-- whether an item finds no place -/
def fullE (es : List Ent) (e : Ent) : Bool := !hasE es e.n && decide (es.length = 8)
theorem name_len {n : Str} (h : nameB (.str n) = true) : 1 ≤ (n.length : Int) ∧ (n.length : Int) ≤ 8 := by
  have h : (decide (1 ≤ (n.length : Int) ∧ (n.length : Int) ≤ 8) && (Txt.isascii n && (Txt.isalpha n && Txt.islower n))) = true := h
  rw [Bool.and_eq_true] at h
  exact of_decide_eq_true h.1
def spWithItem (T : Txt K mg) : Sp := fun vs H Q E => ∃ (d it : Addr) (es : List Ent) (nv wv pc : V) (o : Option Ent), vs = [.ref d, nv, .ref it] ∧ DictAt T H d es ∧ H it = some (.tup [wv, pc]) ∧ RowP T H nv wv pc o ∧
  (o = Option.none → ErrR T H E) ∧ (∀ e, o = some e → fullE es e = true → ErrR T H E) ∧ (∀ e, o = some e → fullE es e = false → ∀ (d' : Addr) (H' : Hp), Same H H' → DictAt T H' d' (putE es e) → Q (.ref d') H')
theorem ok_with_item (HP : PrF lawFile P) (T : Txt K mg) (W : Whl T) : FnOk P w K mg base (L2N.CX P w) 3 T.a_with_item T.fd_with_item ["items", "name", "item"] (spWithItem T) := by
  refine Fun.okN T.F_with_item sc_with_item (fun vs H Q E h => ?_) (fun cdv A outer s H vs Q E hr h => ?_)
  · obtain ⟨d, it, es, nv, wv, pc, o, rfl, _⟩ := h; rfl
  · obtain ⟨d, it, es, nv, wv, pc, o, rfl, hd, hit, hR, k1, k2, k3⟩ := h
    have eS : ∀ {H2 : Hp} {x : V} {a : Addr}, Same H H2 → ErrR T H E → H2 a = Option.none → spInit1 K "part" (.ref a :: ([x] ++ [])) (upd H2 a (exo a T.bads.C Option.none)) (fun v' H3 => v' = .non ∧ ∃ (d : Addr) (fs : List (Str × V)), H3 a = some (exo a T.bads.C (some d)) ∧ H3 d = some (exd d fs) ∧ H2 d = Option.none ∧ E (.ref T.bads.C) (some d) (upd (del H3 a) d (.xd fs))) (fun _ _ _ => False) := fun s2 hE ha =>
      bad_fin1 T.bads.oex T.bads.no ha fun d3 H3 s3 hn h3 => hE _ (by simp) d3 _ H3 (s2.trans s3) (by
        match q : H d3 with
        | Option.none => rfl
        | some o => rw [s2 _ _ q] at hn; cases hn) h3
    refine ⟨_, pss_cons (ps_if (pt_not (pt_val (pe_call (ok_is_name T) (hr.mono (by decide)) rfl T.m_is_name T.F_is_name.kp (b_is_name T) .nil pass0 (pa_cons (pv 1) (pa_nil))))) (pss_one (L2N.ps_raise rfl (L2N.takes_of rfl rfl rfl rfl) (pmk_badS T.bads (hr.mono (by decide)) rfl (pe_str)))) (pss_nil))
      (pss_cons (ps_if (PW.pt (pw_or (pt_not (pt_val (pe_callB call_isi (by rfl) T.n_isinstance (by decide +kernel) (pa_cons (pv 2) (pa_cons (pe_bltn (v := .ty "tuple") (u := .type "tuple") (by rfl) T.n_tuple (by decide +kernel) rfl) (pa_nil)))))) (pw_or1 (pt_cmpR op_ne (pe_callB call_len_seq (by rfl) T.n_len (by decide +kernel) (pa_cons (pv 2) (pa_nil))) (pe_int) (nomark _))))) (pss_one (L2N.ps_raise rfl (L2N.takes_of rfl rfl rfl rfl) (pmk_badS T.bads (hr.mono (by decide)) rfl (pe_str)))) (pss_nil))
      (pss_cons (ps_asg (pv 2) (pg_tup rfl (pgs_cons (pg_name (i := 3) sc_with_item.nd rfl (Or.inl rfl)) (pgs_cons (pg_name (i := 4) sc_with_item.nd rfl (Or.inl rfl)) (pgs_nil)))))
      (pss_cons (ps_if (pt_not (pt_val (pe_callB call_isi (by rfl) T.n_isinstance (by decide +kernel) (pa_cons (pv 3) (pa_cons (pe_glob (v := .ref T.a_Wheel) rfl T.m_Wheel rfl) (pa_nil)))))) (pss_one (L2N.ps_raise rfl (L2N.takes_of rfl rfl rfl rfl) (pmk_badS T.bads (hr.mono (by decide)) rfl (pe_str)))) (pss_nil))
      (pss_cons (ps_if (pt_not (pt_val (pe_call (ok_is_between T) (hr.mono (by decide)) rfl T.m_is_between T.F_is_between.kp (b_is_between T) .nil pass0 (pa_cons (pv 4) (pa_cons (pe_int) (pa_cons (pe_glob (v := .int 1000000000000) rfl T.m_MQ T.r_MQ) (pa_nil))))))) (pss_one (L2N.ps_raise rfl (L2N.takes_of rfl rfl rfl rfl) (pmk_badS T.bads (hr.mono (by decide)) rfl (pe_str)))) (pss_nil))
      (C8.pss_cut (ps_if (PW.pt (pw_and (pt_cmp (pc_dnotin (units1 hr.units) (pv 1) (pv 0)) rfl) (pw_and1 (pt_cmpR op_eq (pe_callB call_lenD (by rfl) T.n_len (by decide +kernel) (pa_cons (pv 0) (pa_nil))) (pe_glob (v := .int 8) rfl T.m_MN T.r_MN) (nomark _))))) (pss_one (L2N.ps_raise rfl (L2N.takes_of rfl rfl rfl rfl) (pmk_tooM T.tmany (hr.mono (by decide)) rfl (pe_str) (pe_glob (v := .int 8) rfl T.m_MN T.r_MN)))) (pss_nil))
      (pss_one (ps_ret (pe_dun (pv 0) (pv 1) (pv 2))))))))), ?_⟩
    obtain ⟨t, hn, hl⟩ : ∃ t, NT H nv t ∧ (∀ z, nv = .str z → z.length ≤ sizeLine) := by
      have sl : ∀ {n : Str}, nameB (.str n) = true → ∀ z, V.str n = .str z → z.length ≤ sizeLine := fun h z e => by
        cases e
        have := (name_len h).2
        rw [sizeLine_eq]
        omega
      cases hR with
      | good e h1 => exact ⟨_, .str _, sl h1⟩
      | name h1 h2 => exact ⟨_, h1, h2⟩
      | wheel h1 => exact ⟨_, .str _, sl h1⟩
      | price h1 => exact ⟨_, .str _, sl h1⟩
    refine ⟨_, rfl, nv, t, rfl, hn, hl, _, rfl, ?_⟩
    cases bn : nameB nv with
    | false =>
      have ho : o = Option.none := by
        cases hR with
        | name => rfl
        | good e h1 => rw [h1] at bn; cases bn
        | wheel h1 => rfl
        | price h1 => rfl
      exact iteT ⟨(by show 1 ≤ 1000; decide), fun a ha => eS (fun _ _ e => e) (k1 ho) ha⟩
    | true =>
      refine iteF ⟨_, rfl, .ref it, .ty "tuple", .type "tuple", .type "tuple", true, rfl, .ty _, (NT.tup hit).ty, kit_ty (by decide +kernel), _, rfl, ?_⟩
      refine iteF ⟨_, rfl, it, _, rfl, .inr (SqT.of hit), rfl, _, rfl, ?_⟩
      refine iteF ?_
      refine ⟨_, rfl, it, _, rfl, SqT.of hit, rfl, _, _, rfl, _, _, rfl, rfl, ?_⟩
      have rai : ErrR T H E → ∀ x : V, ∀ a, H a = Option.none → spInit1 K "part" (.ref a :: ([x] ++ [])) (upd H a (exo a T.bads.C Option.none)) (fun v' H3 => v' = .non ∧ ∃ (d : Addr) (fs : List (Str × V)), H3 a = some (exo a T.bads.C (some d)) ∧ H3 d = some (exd d fs) ∧ H d = Option.none ∧ E (.ref T.bads.C) (some d) (upd (del H3 a) d (.xd fs))) (fun _ _ _ => False) := fun hE x a ha => eS (fun _ _ e => e) hE ha
      cases hR with
      | name h1 h2 h3 => rw [h3] at bn; cases bn
      | wheel h1 h2 h3 => exact ⟨_, rfl, wv, .ref T.a_Wheel, _, .ref T.a_Wheel, false, rfl, (by constructor), h2.ty, W.no _ h3, _, rfl, iteT ⟨(by show 1 ≤ 1000; decide), rai (k1 rfl) _⟩⟩
      | @price n y tr p b a _ t2 h1 h2 h3 h4 =>
        obtain ⟨C, f, cW, dy, hy⟩ := h2
        refine ⟨_, rfl, .ref y, .ref T.a_Wheel, .ref C, .ref T.a_Wheel, true, rfl, (by constructor), cW.ty _ y dy _ hy, cW.wh, true, rfl, iteF ?_⟩
        refine ⟨_, rfl, pc, t2, 0, 1000000000000, rfl, h3, _, rfl, ?_⟩
        rw [h4]
        exact iteT ⟨(by show 1 ≤ 1000; decide), rai (k1 rfl) _⟩
      | @good y e h1 h2 h3 h4 =>
        obtain ⟨C, f, cW, dy, hy⟩ := id h2
        refine ⟨_, rfl, .ref y, .ref T.a_Wheel, .ref C, .ref T.a_Wheel, true, rfl, (by constructor), cW.ty _ y dy _ hy, cW.wh, true, rfl, iteF ?_⟩
        refine ⟨_, rfl, .int e.pr, _, 0, 1000000000000, rfl, .int _, _, rfl, ?_⟩
        rw [show betB 0 1000000000000 (.int e.pr) = true from decide_eq_true h4]
        refine iteF ?_
        obtain ⟨kvs, hd1, hd2, hd3, hd4⟩ := id hd
        have lk : kvs.length = es.length := PySem.Paired.length hd2
        refine ⟨fun σ' H' => σ' = [some (.ref d), some (.str e.n), some (.ref it), some (.ref y), some (.int e.pr)] ∧ H' = H ∧ fullE es e = false, ?_, ?_⟩
        · refine ⟨_, rfl, _, rfl, d, _, rfl, DGet.k (k := .inr e.n) hd1, ?_⟩
          cases q : hasE es e.n with
          | true =>
            obtain ⟨kv, e', _, _, h3, _⟩ := ents_some hd2 q
            rw [h3]
            refine ⟨_, rfl, iteF ⟨rfl, rfl, ?_⟩⟩
            unfold fullE
            rw [q]
            rfl
          | false =>
            rw [ents_none hd2 q]
            refine ⟨_, rfl, iteT ?_⟩
            refine ⟨_, rfl, d, kvs, rfl, hd1, rfl, _, rfl, ?_⟩
            refine ite2 (fun hc => ?_) (fun hc => ?_)
            · have hc := of_decide_eq_true hc
              have hf : fullE es e = true := by
                unfold fullE
                rw [q]
                refine (Bool.true_and _).trans (decide_eq_true ?_)
                injection hc with hc
                omega
              refine ⟨(by show 2 ≤ 1000; decide), fun a ha => tooM_fin T.tmany ha fun d3 H3 s3 hn3 h3 => k2 e rfl hf _ (by simp) d3 _ H3 s3 hn3 h3⟩
            · refine ⟨rfl, rfl, ?_⟩
              unfold fullE
              rw [q]
              refine (Bool.true_and _).trans (decide_eq_false fun z => hc (decide_eq_true ?_))
              rw [lk, z]
              rfl
        · rintro σ' H' ⟨rfl, rfl, hf⟩
          intro d1 hd1n
          have sd := same_new (o := .dK []) hd1n
          refine ⟨_, rfl, d, kvs, rfl, (fun z => by rw [z] at hd1; rw [hd1] at hd1n; cases hd1n), sd _ _ hd1, upd_same, (by rw [lk, sizeLine_eq]; omega), fun e1 he1 => ?_⟩
          have ne : e1 ≠ d1 := fun z => by rw [z, upd_same] at he1; cases he1
          have he0 : H' e1 = Option.none := by rw [upd_ne ne, upd_ne ne] at he1; exact he1
          have S : ∀ (o1 o2 o3 o4 o5 : HO), Same H' (upd (upd (upd (upd (upd H' d1 o1) d1 o2) e1 o3) e1 o4) d1 o5) := fun o1 o2 o3 o4 o5 b o hb => by
            have n1 := ne_of_none hb hd1n
            have n2 := ne_of_none hb he0
            rw [upd_ne n1, upd_ne n2, upd_ne n2, upd_ne n1, upd_ne n1]
            exact hb
          refine ⟨_, rfl, _, rfl, upd_same, (by rw [upd_ne (Ne.symm ne), upd_same]), .inr e.n, rfl, ?_⟩
          refine k3 e rfl hf d1 _ (S _ _ _ _ _) ⟨_, upd_same, ents_put (ents_same (S _ _ _ _ _) hd2) ⟨rfl, ⟨it, y, rfl, S _ _ _ _ _ _ _ hit, h2.same (S _ _ _ _ _)⟩, h3, h4, h1⟩, putE_nodup hd3, ?_⟩
          rw [putE_len]
          unfold fullE at hf
          by_cases q : hasE es e.n = true
          · rw [if_pos q]; exact hd4
          · rw [if_neg q]
            rw [Bool.not_eq_true] at q
            rw [q] at hf
            have : es.length ≠ 8 := fun z => by rw [decide_eq_true z] at hf; cases hf
            omega
/-- what the value v is as a row: an item, or none -/
inductive RowV (T : Txt K mg) (H : Hp) : V → Option Ent → Prop
  | three {r : Addr} {nv wv pv : V} {o : Option Ent} : H r = some (.tup [nv, wv, pv]) → RowP T H nv wv pv o → RowV T H (.ref r) o
  | other {v : V} {t : String} : NT H v t → (t == "tuple") = false → RowV T H v Option.none
  | len {r : Addr} {xs : List V} : H r = some (.tup xs) → xs.length ≠ 3 → RowV T H (.ref r) Option.none
theorem RowV.same {T : Txt K mg} {H H' : Hp} (s : Same H H') {v : V} {o : Option Ent} (h : RowV T H v o) : RowV T H' v o := by
  cases h with
  | three h1 h2 => exact .three (s _ _ h1) (h2.same s)
  | other h1 h2 => exact .other (h1.same s) h2
  | len h1 h2 => exact .len (s _ _ h1) h2
theorem ErrR.mono {T : Txt K mg} {H H' : Hp} {E : XK} (s : Same H H') (h : ErrR T H E) : ErrR T H' E := fun C hC dx fs H2 s2 hn h2 => h C hC dx fs H2 (s.trans s2) (by
  match q : H dx with
  | Option.none => rfl
  | some o => rw [s _ _ q] at hn; cases hn) h2
def spWithRow (T : Txt K mg) : Sp := fun vs H Q E => ∃ (d : Addr) (es : List Ent) (v : V) (o : Option Ent), vs = [.ref d, v] ∧ DictAt T H d es ∧ RowV T H v o ∧
  (o = Option.none → ErrR T H E) ∧ (∀ e, o = some e → fullE es e = true → ErrR T H E) ∧ (∀ e, o = some e → fullE es e = false → ∀ (d' : Addr) (H' : Hp), Same H H' → DictAt T H' d' (putE es e) → Q (.ref d') H')
theorem ok_with_row (HP : PrF lawFile P) (T : Txt K mg) (W : Whl T) : FnOk P w K mg base (L2N.CX P w) 4 T.a_with_row T.fd_with_row ["items", "row"] (spWithRow T) := by
  refine Fun.okN T.F_with_row sc_with_row (fun vs H Q E h => ?_) (fun cdv A outer s H vs Q E hr h => ?_)
  · obtain ⟨d, es, v, o, rfl, _⟩ := h; rfl
  · obtain ⟨d, es, v, o, rfl, hd, hR, k1, k2, k3⟩ := h
    have rai : ErrR T H E → ∀ x : V, ∀ a, H a = Option.none → spInit1 K "part" (.ref a :: ([x] ++ [])) (upd H a (exo a T.bads.C Option.none)) (fun v' H3 => v' = .non ∧ ∃ (d : Addr) (fs : List (Str × V)), H3 a = some (exo a T.bads.C (some d)) ∧ H3 d = some (exd d fs) ∧ H d = Option.none ∧ E (.ref T.bads.C) (some d) (upd (del H3 a) d (.xd fs))) (fun _ _ _ => False) := fun hE x a ha =>
      bad_fin1 T.bads.oex T.bads.no ha fun d3 H3 s3 hn h3 => hE _ (by simp) d3 _ H3 s3 hn h3
    refine ⟨_, pss_cons (ps_if (PW.pt (pw_or (pt_not (pt_val (pe_callB call_isi (by rfl) T.n_isinstance (by decide +kernel) (pa_cons (pv 1) (pa_cons (pe_bltn (v := .ty "tuple") (u := .type "tuple") (by rfl) T.n_tuple (by decide +kernel) rfl) (pa_nil)))))) (pw_or1 (pt_cmpR op_ne (pe_callB call_len_seq (by rfl) T.n_len (by decide +kernel) (pa_cons (pv 1) (pa_nil))) (pe_int) (nomark _))))) (pss_one (L2N.ps_raise rfl (L2N.takes_of rfl rfl rfl rfl) (pmk_badS T.bads (hr.mono (by decide)) rfl (pe_str)))) (pss_nil))
      (pss_cons (ps_asg (pv 1) (pg_tup rfl (pgs_cons (pg_name (i := 2) sc_with_row.nd rfl (Or.inl rfl)) (pgs_cons (pg_name (i := 3) sc_with_row.nd rfl (Or.inl rfl)) (pgs_cons (pg_name (i := 4) sc_with_row.nd rfl (Or.inl rfl)) (pgs_nil))))))
      (pss_one (ps_ret (pe_call (ok_with_item HP T W) (hr.mono (by decide)) rfl T.m_with_item T.F_with_item.kp (b_with_item T) .nil (L2N.passes_call (L2N.takes_of rfl rfl rfl rfl) (fun _ _ _ _ h => h)) (pa_cons (pv 0) (pa_cons (pv 2) (pa_cons (pe_tup (pa_cons (pv 3) (pa_cons (pv 4) (pa_nil)))) (pa_nil)))))))), ?_⟩
    cases hR with
    | @other _ t h1 h2 =>
      refine ⟨_, rfl, v, .ty "tuple", .type t, .type "tuple", (t == "tuple"), rfl, .ty _, h1.ty, kit_ty h1.tupB, _, rfl, ?_⟩
      rw [h2]
      exact iteT (iteT ⟨(by show 1 ≤ 1000; decide), rai (k1 rfl) _⟩)
    | @len r xs h1 h2 =>
      refine ⟨_, rfl, .ref r, .ty "tuple", .type "tuple", .type "tuple", true, rfl, .ty _, (NT.tup h1).ty, kit_ty (by decide +kernel), _, rfl, iteF ?_⟩
      refine ⟨_, rfl, r, _, rfl, .inr (SqT.of h1), rfl, _, rfl, ?_⟩
      refine if_true_of ?_ ⟨(by show 1 ≤ 1000; decide), rai (k1 rfl) _⟩
      rw [decide_eq_false fun z => h2 (by injection z with z; omega)]
      rfl
    | @three r nv wv pc _ h1 h2 =>
      refine ⟨_, rfl, .ref r, .ty "tuple", .type "tuple", .type "tuple", true, rfl, .ty _, (NT.tup h1).ty, kit_ty (by decide +kernel), _, rfl, iteF ?_⟩
      refine ⟨_, rfl, r, _, rfl, .inr (SqT.of h1), rfl, _, rfl, iteF ?_⟩
      refine ⟨_, rfl, r, _, rfl, SqT.of h1, rfl, _, _, rfl, _, _, rfl, _, _, rfl, rfl, ?_⟩
      refine ⟨_, rfl, _, rfl, _, rfl, _, rfl, (by show 2 ≤ sizeLine; decide), fun it hit => ?_⟩
      have si := same_new (o := .tup [wv, pc]) hit
      exact ⟨d, it, es, nv, wv, pc, o, rfl, hd.same si, upd_same, h2.same si, fun z => (k1 z).mono si, fun e z f => (k2 e z f).mono si, fun e z f d' H' s' => k3 e z f d' H' (si.trans s')⟩

/-! ### defs that ask nothing of what is being handled -/
section
variable {P : Program} {w : World} {K : PySem.W.Frag} {mg : Str → Option Value} {base : Heap}
/-- as FnH, whatever the context of the error that is handled -/
structure FnQ (P : Program) (w : World) (K : PySem.W.Frag) (mg : Str → Option Value) (base : Heap) (k : Nat) (f : Addr) (fd : FuncData) (ps : List Str) (sp : Sp) : Prop where
  len : ∀ vs H Q E, sp vs H Q E → vs.length = ps.length
  run : ∀ (A : Around) (outer : List Env) (s : Shared) (H : Hp) (args : Args) (us : List Value) (vs : List V) (Q : VK) (p : Addr × Obj), L2H.RoomH k A → L2H.PinOk outer H s p → Env0 P w K mg base A outer s H → BindsTo s fd args (ps.zip us) → Vals vs us → sp vs H Q E0 →
    codeAny (model P w) A (.call (.ref f) args) (CR CX0 outer P w H s Q E0) s
theorem Fun.okQ {x qual : Str} {st : Stmt} {f : Addr} {fd : FuncData} {N ps : List Str} {k : Nat} {sp : Sp} (F : Fun K x qual st f fd) (S : FnScope N ps (defScope st)) (len : ∀ vs H Q E, sp vs H Q E → vs.length = ps.length)
    (go : ∀ (cdv : Value) (A : Around) (outer : List Env) (s : Shared) (H : Hp) (vs : List V) (Q : VK) (p : Addr × Obj), L2H.RoomH k (A.deeper (envOfC qual (defScope st) s.heap.objs.size f cdv)) → sp vs H Q E0 →
      ∃ t, PSs (L2H.cxH CX0 P w K mg base N qual (defScope st) f cdv A outer s H E0 p) (defBody st) t ∧ t { nx := fun _ H' => Q .non H', rt := Q } (start N vs) H) : FnQ P w K mg base (k + 1) f fd ps sp := by
  obtain ⟨oc, od, kV, doc, pm, an, cdv, ct, osl, rfl, lk, hcd⟩ := F.ex
  constructor
  · exact len
  intro A outer s H args us vs Q p hr hpin e0 hb r hsp
  have KX := e0.mod.kin.keeps (h' := s.heap) fun b o z => (e0.bs b o z).1
  have lim := e0.mod.nolimit.keeps (h' := s.heap) fun b o z => (e0.bs b o z).1
  have hk : ∀ y ∈ ps.zip us, (defScope st).names.lookup y.1 = some .local ∨ ((defScope st).names.lookup y.1 = some .cell ∧ ((cellsFrom (s.heap.objs.size + 1) (defScope st).names []).lookup y.1).isSome = true) := by
    rintro ⟨n, v⟩ hy
    rcases S.par n (List.of_mem_zip hy).1 with q | q
    · exact Or.inl q
    · exact Or.inr ⟨q, PySem.W.cellsFrom_some _ _ _ (Or.inl q)⟩
  refine codeAny_call_function hr.depth (KX _ _ lk) rfl S.co S.gen rfl (PySem.W.codeRec_of KX hcd) (hb _ _ _ _ (wpAny_newFunctionEnv_cells S.kind hk fun env he s1 xx => ?_))
  subst he
  obtain ⟨t, ht, hq⟩ := go cdv A outer s H vs Q p (hr.deeper _) hsp
  have I := L2H.inv_startH (CX := CX0) (E := E0) S hpin e0 (len _ _ _ _ hsp) r xx
  exact ⟨lim.keeps xx.toInCall.keep, codeAny_func (wpAny_mono (ht.run [] s1 _ H _ I hq) (fun fl s' z => match fl, z with
    | .ret u, ⟨v, _, H', J, rv, q⟩ => ⟨v, H', J.os, J.bare, J.base, J.hok, rv, q⟩
    | .next, ⟨_, H', J, q⟩ => ⟨V.non, H', J.os, J.bare, J.base, J.hok, rfl, q⟩
    | .brk, ⟨_, _, _, q⟩ => q.elim
    | .cont, ⟨_, _, _, q⟩ => q.elim) fun e s' z => z)⟩
end
section
variable {X : Cx} {k : Nat} {C f : Addr} {fd : FuncData} {ps : List Str} {sp : Sp}
theorem run_fnQ {A' : Around} {p : Addr × Obj} {pins : List (Addr × Obj)} {σ : L2.St} {H : Hp} {s : Shared} {Q : VK} {us : List Value} {vs : List V} (F : FnQ X.prog X.w X.K X.mg X.base k f fd ps sp) (hr : L2H.RoomH k A') (hA : ∀ {s : Shared} {H : Hp}, Env0 X.prog X.w X.K X.mg X.base X.A X.stack s H → Env0 X.prog X.w X.K X.mg X.base A' X.stack s H) (hp : p ∈ X.pn) (hb : Binds X.K fd ps [])
    (I : Inv X pins σ H s) (r : Vals vs us) (h : sp vs H Q E0) : codeAny (model X.prog X.w) A' (.call (.ref f) ⟨us, []⟩) (fun z s' => match z with | .ok (.ret u) => EP X pins σ Q u s' | _ => False) s := by
  have hl : us.length = ps.length := by rw [← r.length]; exact F.len _ _ _ _ h
  have b := hb s us I.kIn (by rw [List.append_nil]; exact hl)
  rw [List.append_nil] at b
  have P1 := I.pin p (List.mem_append_left _ hp)
  have hpin : L2H.PinOk X.stack H s p := ⟨P1.1, P1.2.1, fun hm => (List.mem_cons.mp (I.stkSub p.1 hm)).elim P1.2.2.1 P1.2.2.2.1, P1.2.2.2.2⟩
  refine codeAny_mono (F.run A' X.stack s H ⟨us, []⟩ us vs Q p hr hpin (hA I.env0) b r h) fun r s' hq => ?_
  match r, hq with
  | .ok (.ret u), hq => exact I.after hq
theorem run_fnQ1 {A' : Around} {p : Addr × Obj} {pins : List (Addr × Obj)} {σ : L2.St} {H : Hp} {s : Shared} {Q : VK} {us : List Value} {vs : List V} (F : FnQ X.prog X.w X.K X.mg X.base k f fd ps sp) (hr : L2H.RoomH k A') (hA : ∀ {s : Shared} {H : Hp}, Env0 X.prog X.w X.K X.mg X.base X.A X.stack s H → Env0 X.prog X.w X.K X.mg X.base A' X.stack s H) (hp : p ∈ X.pn) (hb : Binds X.K fd ps [])
    (I : Inv X pins σ H s) (r : Vals vs us) (h : sp vs H Q E0) : wpAny (model X.prog X.w) A' (call (.ref f) us) (EP X pins σ Q) X.xe s := by
  refine wpAny_call (codeAny_mono (run_fnQ F hr hA hp hb I r h) fun r s' hq => ?_)
  match r, hq with
  | .ok (.ret u), hq => exact hq
theorem call_lenQ {p : Addr × Obj} (F : FnQ X.prog X.w X.K X.mg X.base k f fd ps sp) (hr : L2H.RoomH (k + 1) X.A) (hp : p ∈ X.pn) (hb : Binds X.K fd ps []) (hs : PySem.W.findIn X.K (.ref C) "__len__" = some (some (.ref f))) (hf : PySem.W.isFn X.K (.ref f) = true) : CallR X (.builtin "len") (rLenO C sp E0) := by
  intro pins s σ H xs us Q I r h
  obtain ⟨a, dx, fs, rfl, ha, q⟩ := h
  obtain ⟨u, rfl, ru⟩ := vals1 r
  obtain rfl : u = Value.ref a := ru
  obtain ⟨o, od, J⟩ := ins_at I ha
  obtain ⟨m, hF⟩ := I.fr
  refine PySem.W.len_K hF I.ok.mod.kin J hs hf (thn (run_fnQ1 (A' := X.A.in1) (us := [.ref a]) (vs := [.ref a]) F (roomH_in1 hr) (fun e => e.in1) hp hb I (.cons rfl .nil) q) fun v s1 z => ?_)
  obtain ⟨w', H1, I1, rw1, n, rfl, h0, h1, q1⟩ := z
  obtain ⟨t, rfl⟩ := rw1
  exact ⟨⟨h0, h1⟩, .int n, H1, I1.tok _, ⟨_, rfl⟩, q1⟩
theorem op_notInQ {p : Addr × Obj} (F : FnQ X.prog X.w X.K X.mg X.base k f fd ps sp) (hr : L2H.RoomH k X.A) (hp : p ∈ X.pn) (hb : Binds X.K fd ps []) (hs : PySem.W.findIn X.K (.ref C) "__contains__" = some (some (.ref f))) (hf : PySem.W.isFn X.K (.ref f) = true) : OpR X (compareOp .NotIn) (rNotInO C sp E0) := by
  intro pins s σ H x y v u Q I rx ry h
  obtain ⟨a, dx, fs, rfl, ha, q⟩ := h
  obtain rfl : u = Value.ref a := ry
  obtain ⟨o, od, J⟩ := ins_at I ha
  obtain ⟨m, hF⟩ := I.fr
  refine PySem.W.notIn_K hF I.ok.mod.kin J hs hf (thn (run_fnQ1 (A' := X.A) (us := [.ref a, v]) (vs := [.ref a, x]) F hr (fun e => e) hp hb I (.cons rfl (.cons rx .nil)) q) fun r s1 z => ?_)
  obtain ⟨w, H1, I1, rw1, b, rfl, q1⟩ := z
  cases rw1
  exact wpAny_truthy_bool ⟨.bl (!b), H1, I1, rfl, q1⟩
theorem pe_ixQ {p : Addr × Obj} {a b : Expr} {ta tb : TE} {pos : Pos} (F : FnQ X.prog X.w X.K X.mg X.base k f fd ps sp) (hr : L2H.RoomH (k + 1) X.A) (hp : p ∈ X.pn) (hb : Binds X.K fd ps []) (hs : PySem.W.findIn X.K (.ref C) "__getitem__" = some (some (.ref f))) (hf : PySem.W.fnIn X.K f = true) (hfn : PySem.W.isFn X.K (.ref f) = true)
    (ha : PE X a ta) (hi : PE X b tb) (hsl : ∀ o i, subscripted b true o i = runValue (.builtin "lifetime.subscript" ⟨[o, i], []⟩) := by intros; rfl) : PE X (.Subscript a b pos) (tOp (rIxO C sp E0) ta tb) := by
  refine ⟨fun pins s σ H Q I h => PyProof.Rows.Subscript_ (thn (ha.run pins s σ H _ I h) fun v s1 z => ?_)⟩
  obtain ⟨x, H1, I1, rx, h1⟩ := z
  refine thn (hi.run pins s1 σ H1 _ I1 h1) fun u s2 z => ?_
  obtain ⟨y, H2, I2, ry, q, dx, fs, rfl, ea, h2⟩ := z
  obtain rfl : v = Value.ref q := rx
  obtain ⟨o, od, J⟩ := ins_at I2 ea
  obtain ⟨m, hF⟩ := I2.fr
  exact PySem.W.sub_K hF I2.ok.mod.kin J hs hf hfn (run_fnQ1 (A' := X.A.in1) (us := [.ref q, u]) (vs := [.ref q, y]) F (roomH_in1 hr) (fun e => e.in1) hp hb I2 (.cons rfl (.cons ry .nil)) h2) (hsl _ _)
theorem pe_propQ (K : PySem.W.Frag) (hK : X.K = K) {p : Addr × Obj} {x : Str} {e : Expr} {pos : Pos} {ta : TE} (he : PE X e ta) (pa : Addr) (F : FnQ X.prog X.w X.K X.mg X.base k f fd ps sp) (hr : L2H.RoomH (k + 1) X.A) (hp : p ∈ X.pn) (hb : Binds X.K fd ps [])
    (hab : attributeBase e x X.env (eval e X.env) = eval e X.env) : PE X (.Attribute e x pos) (tPropW K x pa f sp [] E0 ta) := by
  subst hK
  refine ⟨fun pins s σ H Q I h => attr_of hab (thn (he.run pins s σ H _ I h) fun u s1 z => ?_)⟩
  obtain ⟨y, H1, I1, rx, a, C, dx, fs, ex, ea, c, hpr, q⟩ := z
  subst ex
  obtain rfl : u = Value.ref a := rx
  obtain ⟨mA, O, _, _, _, _⟩ := ins_get I1.hok ea
  obtain ⟨od, J, _⟩ := O.look
  obtain ⟨rest, hrec⟩ := hpr.rec_
  have I2 := I1.tok (s1.toks + 1)
  have hcc : (PySem.W.clsIn X.K C).isSome = true := by
    obtain ⟨cd, hc, _⟩ := PySem.W.any_some c.hd
    rw [hc]
    rfl
  refine PySem.W.get_bind I1.kIn J (PySem.W.plainGet_of (c.get x)).1 (PySem.W.findObj_data hcc hpr.at_ hpr.get hpr.tak) (PySem.W.plainGet_of (c.get x)).2 (wpAny_call (PySem.W.prop_get (s := { s1 with toks := s1.toks + 1 }) I1.kIn hrec ?_))
  refine codeAny_mono (run_fnQ (A' := X.A.in1) (us := [.ref a]) (vs := [.ref a]) F (roomH_in1 hr) (fun e => e.in1) hp hb I2 (.cons rfl .nil) q) fun r s' hq => ?_
  match r, hq with
  | .ok (.ret u), hq =>
    obtain ⟨v, H', I3, rv, q3⟩ := hq
    show wpAny _ _ (handedOut u) _ _ _
    rw [PySem.W.handedOut_of (handed_of rv)]
    exact wpAny_pure ⟨v, H', I3, rv, q3⟩
end

/-- all but x stays -/
def But (x : Addr) (H H' : Hp) : Prop := ∀ b o, b ≠ x → H b = some o → H' b = some o
theorem But.refl (x : Addr) (H : Hp) : But x H H := fun _ _ _ e => e
theorem But.trans {x : Addr} {H H1 H2 : Hp} (s : But x H H1) (t : But x H1 H2) : But x H H2 := fun b o n e => t b o n (s b o n e)
theorem But.of {x : Addr} {H H1 : Hp} (s : Same H H1) : But x H H1 := fun b o _ e => s b o e
theorem But.del {x : Addr} {H H1 : Hp} (s : But x H H1) : Same (del H x) (del H1 x) := fun b o e => by
  by_cases n : b = x
  · rw [n, del_same] at e; cases e
  · rw [del_ne n] at e ⊢
    exact s b o n e
theorem del_sub {x : Addr} {H : Hp} : Same (del H x) H := fun b o e => by
  by_cases n : b = x
  · rw [n, del_same] at e; cases e
  · rwa [del_ne n] at e
theorem Same.del {x : Addr} {H H1 : Hp} (s : Same H H1) : Same (del H x) (del H1 x) := (But.of s).del
theorem del_at {x b : Addr} {H : Hp} {o u : HO} (hx : H x = some u) (hb : H b = some o) (ne : o ≠ u) : del H x b = some o := by
  rw [del_ne]
  · exact hb
  · rintro rfl
    rw [hx] at hb
    exact ne (Option.some.inj hb).symm
abbrev shFs (d t tp ta : V) : List (Str × V) := [("_items", d), ("_names", t), ("_past", tp), ("_ahead", ta)]
/-- the names in order -/
def NamesAt (G : Hp) (t : Addr) (es : List Ent) : Prop := ∃ ns : List Str, G t = some (.tup (ns.map V.str)) ∧ ns.Pairwise (fun a b => a.cps.toList < b.cps.toList) ∧ ns.Perm (es.map (·.n))
theorem NamesAt.same {G G' : Hp} (s : Same G G') {t : Addr} {es : List Ent} (h : NamesAt G t es) : NamesAt G' t es := by
  obtain ⟨ns, h1, h2⟩ := h
  exact ⟨ns, s _ _ h1, h2⟩
/-- a tuple of dicts of items -/
def PastAt (T : Txt K mg) (G : Hp) (t : Addr) (ps : List (List Ent)) : Prop := ∃ ds : List Addr, G t = some (.tup (ds.map V.ref)) ∧ PySem.Paired (DictAt T G) ds ps
theorem dicts_same {T : Txt K mg} {G G' : Hp} (s : Same G G') : ∀ {ds : List Addr} {ps : List (List Ent)}, PySem.Paired (DictAt T G) ds ps → PySem.Paired (DictAt T G') ds ps
  | _, _, .nil => .nil
  | _, _, .cons h t => .cons (h.same s) (dicts_same s t)
theorem PastAt.same {T : Txt K mg} {G G' : Hp} (s : Same G G') {t : Addr} {ps : List (List Ent)} (h : PastAt T G t ps) : PastAt T G' t ps := by
  obtain ⟨ds, h1, h2⟩ := h
  exact ⟨ds, s _ _ h1, dicts_same s h2⟩
/-- what a shelf's fields hold -/
structure ShIn (T : Txt K mg) (G : Hp) (es : List Ent) (past ahead : List (List Ent)) (d t tp ta : Addr) : Prop where
  di : DictAt T G d es
  nm : NamesAt G t es
  pa : PastAt T G tp past
  ah : PastAt T G ta ahead
theorem ShIn.same {T : Txt K mg} {G G' : Hp} (s : Same G G') {es : List Ent} {past ahead : List (List Ent)} {d t tp ta : Addr} (h : ShIn T G es past ahead d t tp ta) : ShIn T G' es past ahead d t tp ta := ⟨h.di.same s, h.nm.same s, h.pa.same s, h.ah.same s⟩
/-- at x a shelf with these items, and what can be taken back and done again -/
def ShAt (T : Txt K mg) (H : Hp) (x : Addr) (es : List Ent) (past ahead : List (List Ent)) : Prop := ∃ dx d t tp ta, H x = some (.ins T.a_Shelf dx (shFs (.ref d) (.ref t) (.ref tp) (.ref ta))) ∧ ShIn T (del H x) es past ahead d t tp ta
theorem ShAt.same {T : Txt K mg} {H H' : Hp} (s : Same H H') {x : Addr} {es : List Ent} {past ahead : List (List Ent)} (h : ShAt T H x es past ahead) : ShAt T H' x es past ahead := by
  obtain ⟨dx, d, t, tp, ta, h1, h2⟩ := h
  exact ⟨dx, d, t, tp, ta, s _ _ h1, h2.same (Same.del s)⟩
theorem na_items (T : Txt K mg) : NoAttr K T.a_Shelf "_items" := T.s_na _ (by simp)
theorem na_names (T : Txt K mg) : NoAttr K T.a_Shelf "_names" := T.s_na _ (by simp)
theorem na_past (T : Txt K mg) : NoAttr K T.a_Shelf "_past" := T.s_na _ (by simp)
theorem na_ahead (T : Txt K mg) : NoAttr K T.a_Shelf "_ahead" := T.s_na _ (by simp)
theorem PastAt.nil {T : Txt K mg} {G : Hp} {t : Addr} (h : G t = some (.tup [])) : PastAt T G t [] := ⟨[], h, .nil⟩
theorem step_but {G : Hp} {x t : Addr} {u o : HO} (hx : G x = some u) (ht : G t = Option.none) (u' : HO) : But x G (upd (upd G t o) x u') ∧ (upd (upd G t o) x u') t = some o ∧ t ≠ x := by
  have n : t ≠ x := fun z => by rw [z, hx] at ht; cases ht
  exact ⟨fun b v nb e => by rw [upd_ne nb, upd_ne (ne_of_none e ht)]; exact e, by rw [upd_ne n, upd_same], n⟩
def spShInit (T : Txt K mg) : Sp := fun vs H Q _ => ∃ (x dx : Addr), vs = [.ref x] ∧ H x = some (.ins T.a_Shelf dx []) ∧ ∀ H', But x H H' → ShAt T H' x [] [] [] → Q .non H'
theorem ok_Shelf_init (T : Txt K mg) : FnOk P w K mg base CX0 1 T.a_Shelf_init T.fd_Shelf_init ["self"] (spShInit T) := by
  refine T.F_Shelf_init.ok sc_Shelf_init (fun vs H Q E h => ?_) (fun cdv A outer s H vs Q E hr h => ?_)
  · obtain ⟨x, dx, rfl, _⟩ := h; rfl
  · obtain ⟨x, dx, rfl, hx, k⟩ := h
    refine ⟨_, pss_cons (ps_fld (pv 0) (pe_dnewK) rfl)
      (pss_cons (ps_fld (pv 0) (pe_tup (pa_nil)) rfl)
      (pss_cons (ps_fld (pv 0) (pe_tup (pa_nil)) rfl)
      (pss_one (ps_fld (pv 0) (pe_tup (pa_nil)) rfl)))), ?_⟩
    have na : ∀ {G : Hp} {b : Addr} {o : HO}, G x = some o → G b = Option.none → b ≠ x := fun h1 h2 z => by rw [z, h1] at h2; cases h2
    intro d hd
    have n1 := na hx hd
    refine ⟨_, rfl, x, T.a_Shelf, dx, _, rfl, (by rw [upd_ne (Ne.symm n1)]; exact hx), T.scls, na_items T, (by show 0 < 1000; decide), ?_⟩
    refine ⟨(by show 0 ≤ sizeLine; decide), fun t ht => ?_⟩
    have n2 := na upd_same ht
    refine ⟨_, rfl, x, T.a_Shelf, dx, _, rfl, (by rw [upd_ne (Ne.symm n2), upd_same]), T.scls, na_names T, (by show 1 < 1000; decide), ?_⟩
    refine ⟨(by show 0 ≤ sizeLine; decide), fun tp htp => ?_⟩
    have n3 := na upd_same htp
    refine ⟨_, rfl, x, T.a_Shelf, dx, _, rfl, (by rw [upd_ne (Ne.symm n3), upd_same]), T.scls, na_past T, (by show 2 < 1000; decide), ?_⟩
    refine ⟨(by show 0 ≤ sizeLine; decide), fun ta hta => ?_⟩
    have n4 := na upd_same hta
    refine ⟨_, rfl, x, T.a_Shelf, dx, _, rfl, (by rw [upd_ne (Ne.symm n4), upd_same]), T.scls, na_ahead T, (by show 3 < 1000; decide), ?_⟩
    obtain ⟨b1, e1, m1⟩ := step_but (o := .dK []) hx hd (.ins T.a_Shelf dx (putF "_items" (V.ref d) []))
    obtain ⟨b2, e2, m2⟩ := step_but (o := .tup []) upd_same ht (.ins T.a_Shelf dx (putF "_names" (V.ref t) (putF "_items" (V.ref d) [])))
    obtain ⟨b3, e3, m3⟩ := step_but (o := .tup []) upd_same htp (.ins T.a_Shelf dx (putF "_past" (V.ref tp) (putF "_names" (V.ref t) (putF "_items" (V.ref d) []))))
    obtain ⟨b4, e4, m4⟩ := step_but (o := .tup []) upd_same hta (.ins T.a_Shelf dx (shFs (.ref d) (.ref t) (.ref tp) (.ref ta)))
    have c3 := b3.trans b4
    have c2 := b2.trans c3
    refine k _ (b1.trans c2) ⟨dx, d, t, tp, ta, upd_same, ?_⟩
    have nm : ∀ {G : Hp} {b : Addr} {o : HO}, b ≠ x → G b = some o → del G x b = some o := fun n e => by rw [del_ne n]; exact e
    exact ⟨⟨[], nm m1 (c2 _ _ m1 e1), .nil, List.Pairwise.nil, by decide⟩, ⟨[], nm m2 (c3 _ _ m2 e2), List.Pairwise.nil, List.Perm.refl _⟩, PastAt.nil (nm m3 (b4 _ _ m3 e3)), PastAt.nil (nm m4 e4)⟩
theorem ShAt.fld {T : Txt K mg} {H : Hp} {x : Addr} {es : List Ent} {past ahead : List (List Ent)} (h : ShAt T H x es past ahead) : ∃ dx d t tp ta, H x = some (.ins T.a_Shelf dx (shFs (.ref d) (.ref t) (.ref tp) (.ref ta))) ∧ ShIn T H es past ahead d t tp ta := by
  obtain ⟨dx, d, t, tp, ta, h1, h2⟩ := h
  exact ⟨dx, d, t, tp, ta, h1, h2.same del_sub⟩
theorem paired_len {α β : Type} {R : α → β → Prop} : ∀ {as : List α} {bs : List β}, PySem.Paired R as bs → as.length = bs.length
  | _, _, .nil => rfl
  | _, _, .cons _ t => congrArg (· + 1) (paired_len t)
def spCanUndo (T : Txt K mg) : Sp := fun vs H Q _ => ∃ (x : Addr) (es : List Ent) (past ahead : List (List Ent)), vs = [.ref x] ∧ ShAt T H x es past ahead ∧ Q (.int (past.length : Nat)) H
def spCanRedo (T : Txt K mg) : Sp := fun vs H Q _ => ∃ (x : Addr) (es : List Ent) (past ahead : List (List Ent)), vs = [.ref x] ∧ ShAt T H x es past ahead ∧ Q (.int (ahead.length : Nat)) H
def spShLen (T : Txt K mg) : Sp := fun vs H Q _ => ∃ (x : Addr) (es : List Ent) (past ahead : List (List Ent)), vs = [.ref x] ∧ ShAt T H x es past ahead ∧ Q (.int (es.length : Nat)) H
theorem can_undo_body {T : Txt K mg} {H : Hp} {vs : List V} {Q : VK} {E : XK} (h : spCanUndo T vs H Q E) : ∃ (x dx d t tp ta : Addr) (ds : List Addr) (past : List (List Ent)), vs = [.ref x] ∧ H x = some (.ins T.a_Shelf dx (shFs (.ref d) (.ref t) (.ref tp) (.ref ta))) ∧ H tp = some (.tup (ds.map V.ref)) ∧ Q (.int ((ds.map V.ref).length : Nat)) H := by
  obtain ⟨x, es, past, ahead, rfl, hS, k⟩ := h
  obtain ⟨dx, d, t, tp, ta, hx, hI⟩ := hS.fld
  obtain ⟨ds, h1, h2⟩ := hI.pa
  exact ⟨x, dx, d, t, tp, ta, ds, past, rfl, hx, h1, by rw [List.length_map, paired_len h2]; exact k⟩
theorem can_redo_body {T : Txt K mg} {H : Hp} {vs : List V} {Q : VK} {E : XK} (h : spCanRedo T vs H Q E) : ∃ (x dx d t tp ta : Addr) (ds : List Addr), vs = [.ref x] ∧ H x = some (.ins T.a_Shelf dx (shFs (.ref d) (.ref t) (.ref tp) (.ref ta))) ∧ H ta = some (.tup (ds.map V.ref)) ∧ Q (.int ((ds.map V.ref).length : Nat)) H := by
  obtain ⟨x, es, past, ahead, rfl, hS, k⟩ := h
  obtain ⟨dx, d, t, tp, ta, hx, hI⟩ := hS.fld
  obtain ⟨ds, h1, h2⟩ := hI.ah
  exact ⟨x, dx, d, t, tp, ta, ds, rfl, hx, h1, by rw [List.length_map, paired_len h2]; exact k⟩
theorem len_body {T : Txt K mg} {H : Hp} {vs : List V} {Q : VK} {E : XK} (h : spShLen T vs H Q E) : ∃ (x dx d t tp ta : Addr) (ns : List Str), vs = [.ref x] ∧ H x = some (.ins T.a_Shelf dx (shFs (.ref d) (.ref t) (.ref tp) (.ref ta))) ∧ H t = some (.tup (ns.map V.str)) ∧ Q (.int ((ns.map V.str).length : Nat)) H := by
  obtain ⟨x, es, past, ahead, rfl, hS, k⟩ := h
  obtain ⟨dx, d, t, tp, ta, hx, hI⟩ := hS.fld
  obtain ⟨ns, h1, h2, h3⟩ := hI.nm
  exact ⟨x, dx, d, t, tp, ta, ns, rfl, hx, h1, by rw [List.length_map, h3.length_eq, List.length_map]; exact k⟩
theorem ok_Shelf_can_undo (T : Txt K mg) : FnOk P w K mg base CX0 1 T.a_Shelf_can_undo T.fd_Shelf_can_undo ["self"] (spCanUndo T) := by
  refine T.F_Shelf_can_undo.ok sc_Shelf_can_undo (fun vs H Q E h => ?_) (fun cdv A outer s H vs Q E hr h => ?_)
  · obtain ⟨x, es, past, ahead, rfl, _⟩ := h; rfl
  · obtain ⟨x, dx, d, t, tp, ta, ds, past, rfl, hx, h1, k⟩ := can_undo_body h
    exact ⟨_, pss_one (ps_ret (pe_callB call_len_seq (by rfl) T.n_len (by decide +kernel) (pa_cons (pe_fld (pv 0) rfl) (pa_nil)))), _, rfl, x, T.a_Shelf, dx, _, _, rfl, hx, T.scls, na_past T, rfl, tp, _, rfl, .inr (SqT.of h1), k⟩
theorem okH_can_undo (T : Txt K mg) : FnQ P w K mg base 1 T.a_Shelf_can_undo T.fd_Shelf_can_undo ["self"] (spCanUndo T) := by
  refine Fun.okQ T.F_Shelf_can_undo sc_Shelf_can_undo (fun vs H Q E h => ?_) (fun cdv A outer s H vs Q p hr h => ?_)
  · obtain ⟨x, es, past, ahead, rfl, _⟩ := h; rfl
  · obtain ⟨x, dx, d, t, tp, ta, ds, past, rfl, hx, h1, k⟩ := can_undo_body h
    exact ⟨_, pss_one (ps_ret (pe_callB call_len_seq (by rfl) T.n_len (by decide +kernel) (pa_cons (pe_fld (pv 0) rfl) (pa_nil)))), _, rfl, x, T.a_Shelf, dx, _, _, rfl, hx, T.scls, na_past T, rfl, tp, _, rfl, .inr (SqT.of h1), k⟩
theorem ok_Shelf_can_redo (T : Txt K mg) : FnOk P w K mg base CX0 1 T.a_Shelf_can_redo T.fd_Shelf_can_redo ["self"] (spCanRedo T) := by
  refine T.F_Shelf_can_redo.ok sc_Shelf_can_redo (fun vs H Q E h => ?_) (fun cdv A outer s H vs Q E hr h => ?_)
  · obtain ⟨x, es, past, ahead, rfl, _⟩ := h; rfl
  · obtain ⟨x, dx, d, t, tp, ta, ds, rfl, hx, h1, k⟩ := can_redo_body h
    exact ⟨_, pss_one (ps_ret (pe_callB call_len_seq (by rfl) T.n_len (by decide +kernel) (pa_cons (pe_fld (pv 0) rfl) (pa_nil)))), _, rfl, x, T.a_Shelf, dx, _, _, rfl, hx, T.scls, na_ahead T, rfl, ta, _, rfl, .inr (SqT.of h1), k⟩
theorem okH_len (T : Txt K mg) : FnQ P w K mg base 1 T.a_Shelf_len T.fd_Shelf_len ["self"] (spShLen T) := by
  refine Fun.okQ T.F_Shelf_len sc_Shelf_len (fun vs H Q E h => ?_) (fun cdv A outer s H vs Q p hr h => ?_)
  · obtain ⟨x, es, past, ahead, rfl, _⟩ := h; rfl
  · obtain ⟨x, dx, d, t, tp, ta, ns, rfl, hx, h1, k⟩ := len_body h
    exact ⟨_, pss_one (ps_ret (pe_callB call_len_seq (by rfl) T.n_len (by decide +kernel) (pa_cons (pe_fld (pv 0) rfl) (pa_nil)))), _, rfl, x, T.a_Shelf, dx, _, _, rfl, hx, T.scls, na_names T, rfl, t, _, rfl, .inr (SqT.of h1), k⟩
theorem inV_strs (n : Str) : ∀ ns : List Str, inV (.str n) (ns.map V.str) = decide (n ∈ ns)
  | [] => rfl
  | x :: r => by
    show (eqV (.str x) (.str n) || inV (.str n) (r.map V.str)) = _
    rw [inV_strs n r]
    have e : eqV (.str x) (.str n) = decide (x = n) := by
      show (x == n) = _
      by_cases h : x = n
      · rw [decide_eq_true h, h]; exact beq_self_eq_true n
      · rw [decide_eq_false h]; exact beq_eq_false_iff_ne.mpr h
    rw [e]
    by_cases h : x = n <;> by_cases h2 : n ∈ r <;> simp [h, h2, Ne.symm, eq_comm]
theorem flat_strs : ∀ ns : List Str, (ns.map V.str).all flatV = true
  | [] => rfl
  | _ :: r => by rw [List.map_cons, List.all_cons, flat_strs r]; rfl
theorem has_names {es : List Ent} {ns : List Str} (p : ns.Perm (es.map (·.n))) (n : Str) : decide (n ∈ ns) = hasE es n := by
  cases h : hasE es n with
  | true => exact decide_eq_true (p.mem_iff.mpr (hasE_iff.mp h))
  | false => exact decide_eq_false fun z => by rw [hasE_iff.mpr (p.mem_iff.mp z)] at h; cases h
/-- whether there is an item of this name -/
def spShIn (T : Txt K mg) : Sp := fun vs H Q _ => ∃ (x : Addr) (n : Str) (es : List Ent) (past ahead : List (List Ent)), vs = [.ref x, .str n] ∧ ShAt T H x es past ahead ∧ n.length ≤ 8 ∧ Q (.bl (hasE es n)) H
theorem ok_Shelf_contains (T : Txt K mg) : FnOk P w K mg base CX0 1 T.a_Shelf_contains T.fd_Shelf_contains ["self", "value"] (spShIn T) := by
  refine T.F_Shelf_contains.ok sc_Shelf_contains (fun vs H Q E h => ?_) (fun cdv A outer s H vs Q E hr h => ?_)
  · obtain ⟨x, n, es, past, ahead, rfl, _⟩ := h; rfl
  · obtain ⟨x, n, es, past, ahead, rfl, hS, hn, k⟩ := h
    obtain ⟨dx, d, t, tp, ta, hx, hI⟩ := hS.fld
    obtain ⟨ns, h1, h2, h3⟩ := hI.nm
    refine ⟨_, pss_one (ps_ret (pe_and (pe_callB call_isi (by rfl) T.n_isinstance (by decide +kernel) (pa_cons (pv 1) (pa_cons (pe_bltn (v := .ty "str") (u := .type "str") (by rfl) T.n_str (by decide +kernel) rfl) (pa_nil)))) (pe_one (pe_cmpR op_in_seq (pv 1) (pe_fld (pv 0) rfl) rfl)))), ?_⟩
    refine ⟨_, rfl, .str n, .ty "str", .type "str", .type "str", true, rfl, .ty _, (NT.str (H := H) n).ty, kit_ty (by decide +kernel), _, rfl, iteT ?_⟩
    refine ⟨_, rfl, _, rfl, x, T.a_Shelf, dx, _, _, rfl, hx, T.scls, na_names T, rfl, t, _, rfl, .inr (SqT.of h1), rfl, flat_strs ns, ?_⟩
    show Q (.bl (inV (.str n) (ns.map V.str))) H
    rw [inV_strs, has_names h3]
    exact k
theorem okH_contains (T : Txt K mg) : FnQ P w K mg base 1 T.a_Shelf_contains T.fd_Shelf_contains ["self", "value"] (spShIn T) := by
  refine Fun.okQ T.F_Shelf_contains sc_Shelf_contains (fun vs H Q E h => ?_) (fun cdv A outer s H vs Q p hr h => ?_)
  · obtain ⟨x, n, es, past, ahead, rfl, _⟩ := h; rfl
  · obtain ⟨x, n, es, past, ahead, rfl, hS, hn, k⟩ := h
    obtain ⟨dx, d, t, tp, ta, hx, hI⟩ := hS.fld
    obtain ⟨ns, h1, h2, h3⟩ := hI.nm
    refine ⟨_, pss_one (ps_ret (pe_and (pe_callB call_isi (by rfl) T.n_isinstance (by decide +kernel) (pa_cons (pv 1) (pa_cons (pe_bltn (v := .ty "str") (u := .type "str") (by rfl) T.n_str (by decide +kernel) rfl) (pa_nil)))) (pe_one (pe_cmpR op_in_seq (pv 1) (pe_fld (pv 0) rfl) rfl)))), ?_⟩
    refine ⟨_, rfl, .str n, .ty "str", .type "str", .type "str", true, rfl, .ty _, (NT.str (H := H) n).ty, kit_ty (by decide +kernel), _, rfl, iteT ?_⟩
    refine ⟨_, rfl, _, rfl, x, T.a_Shelf, dx, _, _, rfl, hx, T.scls, na_names T, rfl, t, _, rfl, .inr (SqT.of h1), rfl, flat_strs ns, ?_⟩
    show Q (.bl (inV (.str n) (ns.map V.str))) H
    rw [inV_strs, has_names h3]
    exact k
/-- the item of a name that is there -/
def spShGet (T : Txt K mg) : Sp := fun vs H Q _ => ∃ (x : Addr) (n : Str) (es : List Ent) (past ahead : List (List Ent)), vs = [.ref x, .str n] ∧ ShAt T H x es past ahead ∧ n.length ≤ 8 ∧ hasE es n = true ∧
  ∀ (e : Ent) (tt y : Addr), e ∈ es → e.n = n → H tt = some (.tup [.ref y, .int e.pr]) → WhE T H y e.tr e.p e.b e.a → Parts e.tr e.p e.b e.a → 0 ≤ e.pr ∧ e.pr ≤ 1000000000000 → Q (.ref tt) H
theorem ents_some2 {T : Txt K mg} {H : Hp} : ∀ {kvs : List (Key × V)} {es : List Ent} {n : Str}, PySem.Paired (EntAt T H) kvs es → hasE es n = true → ∃ kv e, e ∈ es ∧ e.n = n ∧ valV kvs (.inr n) = some kv.2 ∧ EntAt T H kv e := ents_some
theorem ok_Shelf_getitem (T : Txt K mg) : FnOk P w K mg base CX0 2 T.a_Shelf_getitem T.fd_Shelf_getitem ["self", "at"] (spShGet T) := by
  refine T.F_Shelf_getitem.ok sc_Shelf_getitem (fun vs H Q E h => ?_) (fun cdv A outer s H vs Q E hr h => ?_)
  · obtain ⟨x, n, es, past, ahead, rfl, _⟩ := h; rfl
  · obtain ⟨x, n, es, past, ahead, rfl, hS, hn, hh, k⟩ := h
    obtain ⟨dx, d, t, tp, ta, hx, hI⟩ := hS.fld
    obtain ⟨kvs, h1, h2, h3⟩ := hI.di
    obtain ⟨kv, e, m1, m2, m3, m4⟩ := ents_some h2 hh
    obtain ⟨tt, y, q1, q2, q3⟩ := m4.v
    refine ⟨_, pss_cons (ps_if (pt_cmpR (op_notInO (ok_Shelf_contains T) (hr.mono (by decide)) (b_Shelf_contains T) pass0 T.fi_in T.fn_in) (pv 1) (pv 0) rfl) (pss_one (ps_never)) (pss_nil))
      (pss_one (ps_ret (pe_dget (units1 hr.units) (pe_fld (pv 0) rfl) (pv 1) (fun _ _ => rfl)))), ?_⟩
    refine ⟨_, rfl, _, rfl, x, dx, _, rfl, hx, x, n, es, past, ahead, rfl, hS, hn, _, rfl, _, rfl, ?_⟩
    rw [hh]
    refine iteF ⟨_, rfl, x, T.a_Shelf, dx, _, _, rfl, hx, T.scls, na_items T, rfl, _, rfl, d, kv.2, rfl, m3 ▸ DGet.k (k := .inr n) h1, ?_⟩
    rw [q1]
    exact k e tt y m1 m2 q2 q3 m4.pa m4.pr

theorem okH_getitem (T : Txt K mg) : FnQ P w K mg base 2 T.a_Shelf_getitem T.fd_Shelf_getitem ["self", "at"] (spShGet T) := by
  refine Fun.okQ T.F_Shelf_getitem sc_Shelf_getitem (fun vs H Q E h => ?_) (fun cdv A outer s H vs Q p hr h => ?_)
  · obtain ⟨x, n, es, past, ahead, rfl, _⟩ := h; rfl
  · obtain ⟨x, n, es, past, ahead, rfl, hS, hn, hh, k⟩ := h
    obtain ⟨dx, d, t, tp, ta, hx, hI⟩ := hS.fld
    obtain ⟨kvs, h1, h2, h3⟩ := hI.di
    obtain ⟨kv, e, m1, m2, m3, m4⟩ := ents_some h2 hh
    obtain ⟨tt, y, q1, q2, q3⟩ := m4.v
    have hu : (A.deeper (envOfC "Shelf.__getitem__" (defScope s_Shelf_getitem) s.heap.objs.size T.a_Shelf_getitem cdv)).units + 1 < cLine := by have := hr.un; omega
    refine ⟨_, pss_cons (ps_if (pt_cmpR (op_notInQ (okH_contains T) (hr.mono (by decide)) (List.mem_cons_self (a := p) (l := [])) (b_Shelf_contains T) T.fi_in T.fn_in) (pv 1) (pv 0) rfl) (pss_one (ps_never)) (pss_nil))
      (pss_one (ps_ret (pe_dget hu (pe_fld (pv 0) rfl) (pv 1) (fun _ _ => rfl)))), ?_⟩
    refine ⟨_, rfl, _, rfl, x, dx, _, rfl, hx, x, n, es, past, ahead, rfl, hS, hn, _, rfl, _, rfl, ?_⟩
    rw [hh]
    refine iteF ⟨_, rfl, x, T.a_Shelf, dx, _, _, rfl, hx, T.scls, na_items T, rfl, _, rfl, d, kv.2, rfl, m3 ▸ DGet.k (k := .inr n) h1, ?_⟩
    rw [q1]
    exact k e tt y m1 m2 q2 q3 m4.pa m4.pr
def spShIter (T : Txt K mg) (n : Nat) : Sp := fun vs H Q _ => ∃ (x dx a : Addr) (d p q : V) (ws : List V), vs = [.ref x] ∧ H x = some (.ins T.a_Shelf dx (shFs d (.ref a) p q)) ∧ SqT K H a ws ∧ ∀ it, H it = Option.none → n ≤ it → Q (.ref it) (upd H it (ItTO a it))
theorem ok_Shelf_iter (T : Txt K mg) : FnN P w K mg base CX0 1 T.a_Shelf_iter (spShIter T) := by
  refine FnN.mk0 T.F_Shelf_iter sc_Shelf_iter (b_Shelf_iter T) (fun n vs H Q E h => ?_) (fun cdv A outer s H vs Q E hr h => ?_)
  · obtain ⟨x, dx, a, d, p, q, ws, rfl, _⟩ := h; rfl
  · obtain ⟨x, dx, a, d, p, q, ws, rfl, hx, hA, k⟩ := h
    refine ⟨_, pss_one (ps_ret (pe_callB call_iterT (by rfl) T.n_iter (by decide +kernel) (pa_cons (pe_fld (pv 0) rfl) (pa_nil)))), ?_⟩
    exact ⟨_, rfl, x, T.a_Shelf, dx, _, _, rfl, hx, T.scls, na_names T, rfl, a, ws, rfl, hA, k⟩
theorem sortedS_strict : ∀ {ys : List Str}, sortedS ys = true → ys.Nodup → ys.Pairwise (fun a b => a.cps.toList < b.cps.toList)
  | [], _, _ => .nil
  | x :: r, h, nd => by
    obtain ⟨n1, n2⟩ := List.nodup_cons.mp nd
    have go : ∀ {p : Str} {l : List Str}, risingS p l = true → sortedS l = true := fun {p l} h => by
      cases l with
      | nil => rfl
      | cons y l =>
        have h : (!ltCps y.cps.toList p.cps.toList && risingS y l) = true := h
        rw [Bool.and_eq_true] at h
        exact h.2
    have ih := sortedS_strict (go (show risingS x r = true from h)) n2
    refine List.pairwise_cons.mpr ⟨fun y hy => ?_, ih⟩
    cases r with
    | nil => cases hy
    | cons z r =>
      have h : (!ltCps z.cps.toList x.cps.toList && risingS z r) = true := h
      rw [Bool.and_eq_true, ltCps_eq] at h
      have h1 : ¬ z.cps.toList < x.cps.toList := fun q => by rw [decide_eq_true q] at h; cases h.1
      have xz : x.cps.toList < z.cps.toList := by
        by_cases q : x.cps.toList < z.cps.toList
        · exact q
        · exact absurd (str_of_cps (List.le_antisymm (List.not_lt.mp h1) (List.not_lt.mp q))) fun e => n1 (by rw [e]; exact List.mem_cons_self)
      rcases List.mem_cons.mp hy with rfl | hy
      · exact xz
      · exact List.lt_trans xz ((List.pairwise_cons.mp ih).1 y hy)
/-- the dict d is held: its names are laid in order -/
def spShHold (T : Txt K mg) : Sp := fun vs H Q _ => ∃ (x d dx : Addr) (es : List Ent) (vi vn vp va : V), vs = [.ref x, .ref d] ∧ H x = some (.ins T.a_Shelf dx (shFs vi vn vp va)) ∧ DictAt T H d es ∧
  ∀ (t : Addr) (H' : Hp), But x H H' → H' x = some (.ins T.a_Shelf dx (shFs (.ref d) (.ref t) vp va)) → t ≠ x → NamesAt H' t es → Q .non H'
theorem ok_Shelf_hold (T : Txt K mg) : FnOk P w K mg base CX0 1 T.a_Shelf_hold T.fd_Shelf_hold ["self", "items"] (spShHold T) := by
  refine T.F_Shelf_hold.ok sc_Shelf_hold (fun vs H Q E h => ?_) (fun cdv A outer s H vs Q E hr h => ?_)
  · obtain ⟨x, d, dx, es, vi, vn, vp, va, rfl, _⟩ := h; rfl
  · obtain ⟨x, d, dx, es, vi, vn, vp, va, rfl, hx, ⟨kvs, h1, h2, h3, h4⟩, k⟩ := h
    refine ⟨_, pss_cons (ps_fld (pv 0) (pv 1) rfl)
      (pss_one (ps_fld (pv 0) (pe_callTy call_tuple_of (by rfl) T.n_tuple (by decide +kernel) (pa_cons (pe_callB cr_sortedS (by rfl) T.n_sorted (by decide +kernel) (pa_cons (pe_callTy (call_listD rfl) (by rfl) T.n_list (by decide +kernel) (pa_cons (pv 1) pa_nil)) pa_nil)) pa_nil)) rfl)), ?_⟩
    refine ⟨_, rfl, _, rfl, x, T.a_Shelf, dx, _, rfl, hx, T.scls, na_items T, (by show 4 < 1000; decide), ?_⟩
    have nd : d ≠ x := fun z => by rw [z, hx] at h1; cases h1
    have hd1 : (upd H x (.ins T.a_Shelf dx (putF "_items" (.ref d) (shFs vi vn vp va)))) d = some (.dK kvs) := by rw [upd_ne nd]; exact h1
    have b1 : But x H (upd H x (.ins T.a_Shelf dx (putF "_items" (.ref d) (shFs vi vn vp va)))) := fun b o n e => by rw [upd_ne n]; exact e
    have hx1 : (upd H x (.ins T.a_Shelf dx (putF "_items" (.ref d) (shFs vi vn vp va)))) x = some (.ins T.a_Shelf dx (shFs (.ref d) vn vp va)) := upd_same
    generalize upd H x (.ins T.a_Shelf dx (putF "_items" (.ref d) (shFs vi vn vp va))) = G at hd1 b1 hx1 ⊢
    refine ⟨_, rfl, d, kvs, rfl, .inl hd1, fun l hl => ?_⟩
    rw [ents_keys h2]
    have sl := same_new (o := .lst ((es.map (·.n)).map V.str)) hl
    refine ⟨l, es.map (·.n), rfl, SqL.of upd_same, by rw [List.length_map]; omega, fun ys p pm hs hp => ?_⟩
    have sp := same_new (o := .lst (ys.map V.str)) hp
    refine ⟨p, _, rfl, .inl ⟨SqL.of upd_same, fun t ht => ?_⟩⟩
    have st := same_new (o := .tup (ys.map V.str)) ht
    have hx2 := st _ _ (sp _ _ (sl _ _ hx1))
    have tx : t ≠ x := fun z => by rw [z, sp _ _ (sl _ _ hx1)] at ht; cases ht
    refine ⟨_, rfl, x, T.a_Shelf, dx, _, rfl, hx2, T.scls, na_names T, (by show 4 < 1000; decide), ?_⟩
    refine k t _ (fun b o n e => ?_) upd_same tx ⟨ys, by rw [upd_ne tx, upd_same], sortedS_strict hs (pm.nodup_iff.mpr h3), pm⟩
    rw [upd_ne n]
    exact st _ _ (sp _ _ (sl _ _ (b1 _ _ n e)))
/-- the items of the dict d stand; what stood can be taken back -/
def spShDone (T : Txt K mg) : Sp := fun vs H Q _ => ∃ (x d : Addr) (es es' : List Ent) (past ahead : List (List Ent)), vs = [.ref x, .ref d] ∧ ShAt T H x es past ahead ∧ DictAt T H d es' ∧ past.length < 1000 ∧
  ∀ H', But x H H' → ShAt T H' x es' (past ++ [es]) [] → Q .non H'
theorem DictAt.ne {T : Txt K mg} {H : Hp} {d x : Addr} {es : List Ent} {C dx : Addr} {fs : List (Str × V)} (h : DictAt T H d es) (hx : H x = some (.ins C dx fs)) : d ≠ x := by
  obtain ⟨kvs, h1, _⟩ := h
  exact fun z => by rw [z, hx] at h1; cases h1
/-- what is no instance of a shelf is not told at x -/
theorem EntAt.del {T : Txt K mg} {H : Hp} {x dx : Addr} {v1 v2 v3 v4 : V} (hx : H x = some (.ins T.a_Shelf dx (shFs v1 v2 v3 v4))) {kv : Key × V} {e : Ent} (h : EntAt T H kv e) : EntAt T (del H x) kv e := by
  obtain ⟨t, y, q1, q2, ⟨C, f, c1, dy, q3⟩⟩ := h.v
  refine ⟨h.k, ⟨t, y, q1, del_at hx q2 (fun z => by cases z), ⟨C, f, c1, dy, del_at hx q3 fun z => ?_⟩⟩, h.pa, h.pr, h.nm⟩
  injection z with z1 z2 z3
  injection z3 with z4 z5
  injection z4 with z6 z7
  exact absurd z6 (by decide)
theorem ents_del {T : Txt K mg} {H : Hp} {x dx : Addr} {v1 v2 v3 v4 : V} (hx : H x = some (.ins T.a_Shelf dx (shFs v1 v2 v3 v4))) : ∀ {kvs : List (Key × V)} {es : List Ent}, PySem.Paired (EntAt T H) kvs es → PySem.Paired (EntAt T (del H x)) kvs es
  | _, _, .nil => .nil
  | _, _, .cons h t => .cons (h.del hx) (ents_del hx t)
theorem DictAt.del {T : Txt K mg} {H : Hp} {x dx d : Addr} {v1 v2 v3 v4 : V} {es : List Ent} (hx : H x = some (.ins T.a_Shelf dx (shFs v1 v2 v3 v4))) (h : DictAt T H d es) : DictAt T (del H x) d es := by
  obtain ⟨kvs, h1, h2, h3⟩ := h
  exact ⟨kvs, del_at hx h1 (fun z => by cases z), ents_del hx h2, h3⟩
theorem NamesAt.del {H : Hp} {x t : Addr} {u : HO} {es : List Ent} (hx : H x = some u) (nu : ∀ xs, u ≠ .tup xs) (h : NamesAt H t es) : NamesAt (del H x) t es := by
  obtain ⟨ns, h1, h2⟩ := h
  exact ⟨ns, del_at hx h1 (fun z => nu _ z.symm), h2⟩
theorem dicts_snoc {T : Txt K mg} {G : Hp} : ∀ {ds : List Addr} {ps : List (List Ent)} {d : Addr} {es : List Ent}, PySem.Paired (DictAt T G) ds ps → DictAt T G d es → PySem.Paired (DictAt T G) (ds ++ [d]) (ps ++ [es])
  | _, _, _, _, .nil, h => .cons h .nil
  | _, _, _, _, .cons x t, h => .cons x (dicts_snoc t h)
theorem ok_Shelf_done (T : Txt K mg) : FnOk P w K mg base CX0 2 T.a_Shelf_done T.fd_Shelf_done ["self", "items"] (spShDone T) := by
  refine T.F_Shelf_done.ok sc_Shelf_done (fun vs H Q E h => ?_) (fun cdv A outer s H vs Q E hr h => ?_)
  · obtain ⟨x, d, es, es', past, ahead, rfl, _⟩ := h; rfl
  · obtain ⟨x, d', es, es', past, ahead, rfl, ⟨dx, d, t, tp, ta, hx, hI⟩, hd', hpl, k⟩ := h
    refine ⟨_, pss_cons (ps_fld (pv 0) (pe_tup (StX.pa_star (pe_fld (pv 0) rfl) (pa_cons (pe_fld (pv 0) rfl) (pa_nil)))) rfl)
      (pss_cons (ps_fld (pv 0) (pe_tup (pa_nil)) rfl)
      (pss_one (ps_expr (pe_meth (pv 0) T.scls T.s_hold (ok_Shelf_hold T) (hr.mono (by decide)) (b_Shelf_hold T) .nil pass0 (pa_cons (pv 1) (pa_nil)))))), ?_⟩
    have hIH := hI.same del_sub
    obtain ⟨ds, p1, p2⟩ := hI.pa
    refine ⟨_, rfl, x, T.a_Shelf, dx, _, _, rfl, hx, T.scls, na_past T, rfl, tp, _, rfl, .inl (SqT.of (del_sub _ _ p1)), ?_⟩
    refine ⟨_, rfl, x, T.a_Shelf, dx, _, _, rfl, hx, T.scls, na_items T, rfl, ?_⟩
    refine ⟨by rw [List.length_append, List.length_map, paired_len p2, sizeLine_eq]; simp only [List.length_cons, List.length_nil]; omega, fun p hp => ?_⟩
    obtain ⟨b1, e1, m1⟩ := step_but (o := .tup (ds.map V.ref ++ [V.ref d])) hx hp (.ins T.a_Shelf dx (putF "_past" (.ref p) (shFs (.ref d) (.ref t) (.ref tp) (.ref ta))))
    refine ⟨_, rfl, x, T.a_Shelf, dx, _, rfl, (by rw [upd_ne (Ne.symm m1)]; exact hx), T.scls, na_past T, (by show 4 < 1000; decide), ?_⟩
    refine ⟨(by show 0 ≤ sizeLine; decide), fun q hq => ?_⟩
    obtain ⟨b2, e2, m2⟩ := step_but (o := .tup []) upd_same hq (.ins T.a_Shelf dx (putF "_ahead" (.ref q) (shFs (.ref d) (.ref t) (.ref p) (.ref ta))))
    refine ⟨_, rfl, x, T.a_Shelf, dx, _, rfl, (by rw [upd_ne (Ne.symm m2), upd_same]), T.scls, na_ahead T, (by show 4 < 1000; decide), ?_⟩
    have b12 := b1.trans b2
    have hd2 := (hd'.del hx).same b12.del
    refine ⟨_, rfl, x, dx, _, rfl, upd_same, rfl, _, rfl, x, d', dx, es', .ref d, .ref t, .ref p, .ref q, rfl, upd_same, hd2.same del_sub, fun t' H' bt hx' nt hN => ?_⟩
    have b := b12.trans bt
    refine k H' b ⟨dx, d', t', p, q, hx', ⟨(hd'.del hx).same b.del, hN.del hx' (fun _ z => by cases z), ⟨ds ++ [d], ?_, dicts_snoc (dicts_same b.del p2) (hI.di.same b.del)⟩, PastAt.nil ?_⟩⟩
    · rw [del_ne m1, List.map_append]
      exact bt _ _ m1 (b2 _ _ m1 e1)
    · rw [del_ne m2]
      exact bt _ _ m2 e2
theorem at_last {α : Type} (xs : List α) (x : α) : atI (xs ++ [x]) (-1) = some x := by
  unfold atI ixN
  rw [if_neg (by decide), List.length_append, List.length_singleton, if_pos (by omega)]
  show (xs ++ [x])[((-1 : Int) + ((xs.length + 1 : Nat) : Int)).toNat]? = some x
  rw [show ((-1 : Int) + ((xs.length + 1 : Nat) : Int)).toNat = xs.length by omega]
  simp
theorem six_last (xs : List V) (x : V) : HT.sIx (xs ++ [x]).length (xs ++ [x]).length (some (-1)) = xs.length := by
  show (if (-1 : Int) < 0 then ((-1 : Int) + ((xs ++ [x]).length : Int)).toNat else min (-1 : Int).toNat (xs ++ [x]).length) = _
  rw [if_pos (by decide), List.length_append, List.length_singleton]
  omega
theorem cut_last (xs : List V) (x : V) : cutV (xs ++ [x]) Option.none (some (-1)) = xs := by
  unfold cutV
  rw [six_last]
  show ((xs ++ [x]).drop 0).take (xs.length - 0) = xs
  rw [List.drop_zero, Nat.sub_zero, List.take_left']
  rfl
/-- what was done last is taken back -/
def spShUndo (T : Txt K mg) : Sp := fun vs H Q _ => ∃ (x : Addr) (es e1 : List Ent) (past ahead : List (List Ent)), vs = [.ref x] ∧ ShAt T H x es (past ++ [e1]) ahead ∧ ahead.length < 1000 ∧ past.length < 1000 ∧
  ∀ H', But x H H' → ShAt T H' x e1 past (ahead ++ [es]) → Q .non H'
theorem dicts_last {T : Txt K mg} {G : Hp} : ∀ {ds : List Addr} {ps : List (List Ent)} {es : List Ent}, PySem.Paired (DictAt T G) ds (ps ++ [es]) → ∃ ds' d, ds = ds' ++ [d] ∧ PySem.Paired (DictAt T G) ds' ps ∧ DictAt T G d es
  | _, [], _, .cons h .nil => ⟨[], _, rfl, .nil, h⟩
  | _, _ :: _, _, .cons h t => by
    obtain ⟨ds', d, rfl, h1, h2⟩ := dicts_last t
    exact ⟨_ :: ds', d, rfl, .cons h h1, h2⟩
theorem ok_Shelf_undo (T : Txt K mg) : FnOk P w K mg base CX0 2 T.a_Shelf_undo T.fd_Shelf_undo ["self"] (spShUndo T) := by
  refine T.F_Shelf_undo.ok sc_Shelf_undo (fun vs H Q E h => ?_) (fun cdv A outer s H vs Q E hr h => ?_)
  · obtain ⟨x, es, e1, past, ahead, rfl, _⟩ := h; rfl
  · obtain ⟨x, es, e1, past, ahead, rfl, ⟨dx, d, t, tp, ta, hx, hI⟩, hal, hpl, k⟩ := h
    refine ⟨_, pss_cons (ps_if (pt_not (pt_truth (pe_fld (pv 0) rfl) (fun _ => rfl))) (pss_one (ps_never)) (pss_nil))
      (pss_cons (ps_fld (pv 0) (pe_tup (StX.pa_star (pe_fld (pv 0) rfl) (pa_cons (pe_fld (pv 0) rfl) (pa_nil)))) rfl)
      (pss_cons (ps_expr (pe_meth (pv 0) T.scls T.s_hold (ok_Shelf_hold T) (hr.mono (by decide)) (b_Shelf_hold T) .nil pass0 (pa_cons (pe_ix ix_tup (pe_fld (pv 0) rfl) (pe_un un_neg (pe_int)) (fun _ _ => rfl)) (pa_nil))))
      (pss_one (ps_fld (pv 0) (pe_slice sl_tupA (pe_fld (pv 0) rfl) (po_none) (po_some (pe_un un_neg (pe_int)))) rfl)))), ?_⟩
    obtain ⟨ds0, p1, p2⟩ := hI.pa
    obtain ⟨ds, dl, rfl, p3, p4⟩ := dicts_last p2
    obtain ⟨as, a1, a2⟩ := hI.ah
    have hp1 := del_sub _ _ p1
    have ha1 := del_sub _ _ a1
    have ha1 := del_sub _ _ a1
    refine ⟨_, rfl, x, T.a_Shelf, dx, _, _, rfl, hx, T.scls, na_past T, rfl, true, .inr (.inl ⟨_, SqT.of hp1, by simp⟩), iteF ?_⟩
    refine ⟨_, rfl, x, T.a_Shelf, dx, _, _, rfl, hx, T.scls, na_ahead T, rfl, ta, _, rfl, .inl (SqT.of ha1), ?_⟩
    refine ⟨_, rfl, x, T.a_Shelf, dx, _, _, rfl, hx, T.scls, na_items T, rfl, ?_⟩
    refine ⟨by rw [List.length_append, List.length_map, paired_len a2, sizeLine_eq]; simp only [List.length_cons, List.length_nil]; omega, fun p hp => ?_⟩
    obtain ⟨b1, e1', m1⟩ := step_but (o := .tup (as.map V.ref ++ [V.ref d])) hx hp (.ins T.a_Shelf dx (putF "_ahead" (.ref p) (shFs (.ref d) (.ref t) (.ref tp) (.ref ta))))
    refine ⟨_, rfl, x, T.a_Shelf, dx, _, rfl, (by rw [upd_ne (Ne.symm m1)]; exact hx), T.scls, na_ahead T, (by show 4 < 1000; decide), ?_⟩
    have n2 : tp ≠ x := fun z => by rw [z, hx] at hp1; cases hp1
    have hp2 := b1 _ _ n2 hp1
    have hx2 : (upd (upd H p (.tup (as.map V.ref ++ [V.ref d]))) x (.ins T.a_Shelf dx (putF "_ahead" (.ref p) (shFs (.ref d) (.ref t) (.ref tp) (.ref ta))))) x = some (.ins T.a_Shelf dx (shFs (.ref d) (.ref t) (.ref tp) (.ref p))) := upd_same
    generalize upd (upd H p (.tup (as.map V.ref ++ [V.ref d]))) x (.ins T.a_Shelf dx (putF "_ahead" (.ref p) (shFs (.ref d) (.ref t) (.ref tp) (.ref ta)))) = G at b1 e1' hp2 hx2 ⊢
    rw [List.map_append, List.map_cons, List.map_nil] at hp2
    have hdl := p4.same b1.del
    refine ⟨_, rfl, x, dx, _, rfl, hx2, rfl, _, rfl, x, T.a_Shelf, dx, _, _, rfl, hx2, T.scls, na_past T, rfl, _, rfl, tp, _, -1, _, rfl, rfl, SqT.of hp2, at_last _ _, x, dl, dx, e1, _, _, _, _, rfl, hx2, hdl.same del_sub, fun t' H' bt hx' nt hN => ?_⟩
    have hp3 := bt _ _ n2 hp2
    refine ⟨_, rfl, x, T.a_Shelf, dx, _, _, rfl, hx', T.scls, na_past T, rfl, ?_⟩
    refine ⟨_, rfl, _, rfl, tp, _, rfl, SqT.of hp3, fun z => ?_, fun _ q hq => ?_⟩
    · have z := z.2
      rw [six_last, List.length_append, List.length_singleton] at z
      omega
    · rw [cut_last]
      obtain ⟨b2, e2, m2⟩ := step_but (o := .tup (ds.map V.ref)) hx' hq (.ins T.a_Shelf dx (putF "_past" (.ref q) (shFs (.ref dl) (.ref t') (.ref tp) (.ref p))))
      refine ⟨_, rfl, x, T.a_Shelf, dx, _, rfl, (by rw [upd_ne (Ne.symm m2)]; exact hx'), T.scls, na_past T, (by show 4 < 1000; decide), ?_⟩
      have b := (b1.trans bt).trans b2
      refine k _ b ⟨dx, dl, t', q, p, upd_same, ⟨p4.same b.del, (hN.del hx' (fun _ z => by cases z)).same b2.del, ⟨ds, ?_, dicts_same b.del p3⟩, ⟨as ++ [d], ?_, dicts_snoc (dicts_same b.del a2) (hI.di.same b.del)⟩⟩⟩
      · rw [del_ne m2]
        exact e2
      · rw [del_ne m1, List.map_append]
        exact b2 _ _ m1 (bt _ _ m1 e1')

/-- what the text has of the errors that are caught -/
structure Caught (T : Txt K mg) : Prop where
  exS : PySem.W.exmOne K (.ref T.bads.C) (.ref T.R) = some true
  exM : PySem.W.exmOne K (.ref T.tmany.C) (.ref T.R) = some true
  sbS : PySem.W.subIn K (.ref T.bads.C) (.type "BaseException") = some true
  sbM : PySem.W.subIn K (.ref T.tmany.C) (.type "BaseException") = some true
  exD : PySem.W.exmOne K (.ref T.badd.C) (.ref T.badd.C) = some true
  eD : ErrC K T.badd.C
  kR : PySem.W.kitOne K (.ref T.badd.C) (.ref T.R) = some true
  kV : PySem.W.kitOne K (.ref T.badd.C) (.type "ValueError") = some true
  kS : PySem.W.kitOne K (.ref T.badd.C) (.ref T.bads.C) = some false
/-- the rows one after another: the items, or the first row that is refused -/
def runR : Nat → List Ent → List (Option Ent) → Except Nat (List Ent)
  | _, es, [] => .ok es
  | i, _, Option.none :: _ => .error i
  | i, es, some e :: r => if fullE es e = true then .error i else runR (i + 1) (putE es e) r
/-- BadDeed of the row i -/
def ErrD (T : Txt K mg) (H : Hp) (E : XK) (i : Nat) : Prop := ∀ (dx : Addr) (H2 : Hp), Same H H2 → H dx = Option.none → H2 dx = some (.xd [("at", .int (i : Nat))]) → E (.ref T.badd.C) (some dx) H2
theorem none_up {H H' : Hp} (s : Same H H') {a : Addr} (h : H' a = Option.none) : H a = Option.none := by
  match q : H a with
  | Option.none => rfl
  | some o => rw [s _ _ q] at h; cases h
theorem ErrD.mono {T : Txt K mg} {H H' : Hp} {E : XK} {i : Nat} (s : Same H H') (h : ErrD T H E i) : ErrD T H' E i := fun dx H2 s2 hn h2 => h dx H2 (s.trans s2) (none_up s hn) h2
theorem rows_same {T : Txt K mg} {H H' : Hp} (s : Same H H') : ∀ {vs : List V} {os : List (Option Ent)}, PySem.Paired (RowV T H) vs os → PySem.Paired (RowV T H') vs os
  | _, _, .nil => .nil
  | _, _, .cons h t => .cons (h.same s) (rows_same s t)
theorem paired_get {α β : Type} {R : α → β → Prop} : ∀ {as : List α} {bs : List β} {i : Nat} {a : α}, PySem.Paired R as bs → as[i]? = some a → ∃ b, bs[i]? = some b ∧ R a b
  | _, _, _, _, .nil, h => by simp at h
  | _, _, 0, _, .cons x _, h => by cases h; exact ⟨_, rfl, x⟩
  | _, _, i + 1, _, .cons _ t, h => paired_get (i := i) t (by simpa using h)
/-- raise BadDeed(at) from why, in the suite of the clause that caught why -/
def tRaiseD (K : PySem.W.Frag) {mg : Str → Option Value} (B : BadD K mg) (i j : Nat) (a : Addr) (cls0 : Value) (W : WX) : TS := fun _ σ H => tMkO B.C (spInit1 K "at") [] (tCons (tVar j) tNil) σ H fun cls d H' => σ[i]? = some (some (.ref a)) ∧ PySem.W.subIn K cls0 (.type "BaseException") = some true ∧ W cls d σ H'
theorem ps_raiseD {X : Cx} (K : PySem.W.Frag) (mg : Str → Option Value) (hK : X.K = K) (hm : X.mg = mg) (B : BadD K mg) {W : WX} {i j : Nat} {a : Addr} {oe : Obj} {cls0 : Value} {x z : Str} {p1 p2 p3 p4 p5 : Pos} (hot : L2H.Hot1 X.A (a, oe)) (hp : (a, oe) ∈ X.pn) (hz0 : oe.cls = cls0) (tk : L2.Takes X W) (hr : L2H.RoomH 2 X.A) (hg : Gl X "BadDeed") (hN : X.N[i]? = some x) (hv : Vis X.env.scope x) (hNz : X.N[j]? = some z) (hvz : Vis X.env.scope z)
    (hdb : (x == ("__debug__" : Str)) = false) (hcd : (x == ("__classdict__" : Str)) = false) (hdz : (z == ("__debug__" : Str)) = false) (hcz : (z == ("__classdict__" : Str)) = false) :
    PS X (.Raise (some (.Call (.Name "BadDeed" p1) [.Name z p2] [] p3)) (some (.Name x p4)) p5) (tRaiseD K B i j a cls0 W) := by
  subst hK hm
  exact ps_raiseHP hot hp hz0 tk (pmk_badDH B hr ⟨_, hot, hp⟩ hg (pe_var hNz hvz hdz hcz)) hN hv hdb hcd
/-- the loop's body -/
def tbStock (T : Txt K mg) (E : XK) : TS := fun D σ H => tAsg (tCallS (spWithRow T) (WE (wAsX K (.ref T.R) 5 (fun a cls d => tRaiseD K T.badd 5 3 a cls (fun cls d _ H => E cls d H)) (fun cls d _ H => E cls d H) D)) (tCons (tVar 2) (tCons (tVar 4) tNil))) (gName 2) D σ H
def spStock (T : Txt K mg) : V → List V → Hp → VK → XK → Prop := fun a vs H Q E => ∃ (x : Addr) (es : List Ent) (past ahead : List (List Ent)) (os : List (Option Ent)), a = .ref x ∧ ShAt T H x es past ahead ∧ past.length < 1000 ∧ PySem.Paired (RowV T H) vs os ∧
  (∀ i, runR 0 es os = .error i → ErrD T H E i) ∧ (∀ es', runR 0 es os = .ok es' → ∀ H', But x H H' → ShAt T H' x es' (past ++ [es]) [] → Q .non H')
theorem ok_Shelf_stock (HP : PrF lawFile P) (T : Txt K mg) (W : Whl T) (B : Caught T) : FnR P w K mg base (L2.CX P w) 6 T.a_Shelf_stock (fun vs H Q E => ∃ a rest, vs = a :: rest ∧ rest.length ≤ sizeLine ∧ spStock T a rest H Q E) := by
  refine star1_okX T.F_Shelf_stock sc_Shelf_stock (fun _ _ _ _ _ _ a rest => by cases rest <;> rfl) fun cdv A outer s H a vs p H0 Q E hr h hvl hp0 eH => ?_
  obtain ⟨x, es, past, ahead, os, rfl, hS, hpl, hR, k1, k2⟩ := h
  have s0 : Same H0 H := eH ▸ same_new hp0
  have hp : H p = some (.tup vs) := by rw [eH, upd_same]
  clear eH
  refine ⟨_, pss_cons (ps_set (i := 2) sc_Shelf_stock.nd rfl (Or.inl rfl) (pe_fld (pv 0) rfl))
      (pss_cons (ps_for (passes_of rfl) rfl (pi_enum2 (by rfl) T.n_enumerate (pa_cons (pv 1) pa_nil)) (pg_tup rfl (pgs_cons (pg_name (i := 3) sc_Shelf_stock.nd rfl (Or.inl rfl)) (pgs_cons (pg_name (i := 4) sc_Shelf_stock.nd rfl (Or.inl rfl)) (pgs_nil)))) (pss_one (ps_try_asX (i := 5) (c := .ref T.R) rfl rfl rfl sc_Shelf_stock.nd rfl rfl ⟨rfl, by decide, .inl T.m_R⟩ (fun hd => L2H.passesAt_of rfl hd) (takes_of rfl rfl rfl rfl) (fun W1 pn xe tk _ => pss_one (ps_set (i := 2) sc_Shelf_stock.nd rfl (Or.inl rfl) (pe_callS (ok_with_row HP T W) (hr.mono (by decide)) rfl T.m_with_row T.F_with_row.kp (b_with_row T) (fun σ => L2N.passAt tk σ) (pa_cons (pv 2) (pa_cons (pv 4) pa_nil))))) (fun a oe cls d pn xe hz hd tk hot => pss_one (ps_raiseD K mg rfl rfl T.badd (i := 5) (j := 3) (x := "why") (z := "at") hot List.mem_cons_self hz.1 tk (L2H.roomH_mark (hr.mono (by decide)) _) rfl rfl (.inl rfl) rfl (.inl rfl) (by decide) (by decide) (by decide) (by decide))))))
      (pss_one (ps_expr (pe_meth (pv 0) T.scls T.s_done (ok_Shelf_done T) (hr.mono (by decide)) (b_Shelf_done T) .nil pass0 (pa_cons (pv 2) (pa_nil)))))), ?_⟩
  have hS1 := hS.same s0
  obtain ⟨dx, d, t, tp, ta, hx, hI⟩ := hS1.fld
  refine ⟨_, rfl, x, T.a_Shelf, dx, _, _, rfl, hx, T.scls, na_items T, rfl, ?_⟩
  refine ⟨_, rfl, p, vs, rfl, .inr ⟨SqT.of hp, for_enumT (K := K) (tb := tbStock T E) (a := p) (xs := vs) (fun i σ H' => ∃ (di : Addr) (x3 x4 : Option V) (ei : List Ent), σ = [some (.ref x), some (.ref p), some (.ref di), x3, x4, Option.none] ∧ Same H H' ∧ DictAt T H' di ei ∧ runR 0 es os = runR i ei (os.drop i))
    ⟨d, Option.none, Option.none, es, rfl, fun _ _ e => e, hI.di, rfl⟩ (fun i σ H' _ h => ?_) ?_ ?_⟩⟩
  · obtain ⟨_, _, _, _, _, s1, _⟩ := h
    exact SqT.of (s1 _ _ hp)
  · rintro i v σ H' Tt hv ⟨di, x3, x4, ei, rfl, s1, hdi, hrun⟩ hT
    have sT := same_new (o := .tup [.int (i : Nat), v]) hT
    refine ⟨Tt, _, rfl, SqT.of upd_same, rfl, _, _, rfl, _, _, rfl, rfl, ?_⟩
    obtain ⟨o, ho, hRv⟩ := paired_get hR hv
    have s2 := (s0.trans s1).trans sT
    have hRv := hRv.same s2
    have hdi := hdi.same sT
    have hdr : os.drop i = o :: os.drop (i + 1) := by
      have hlt : i < os.length := by
        rcases Nat.lt_or_ge i os.length with q | q
        · exact q
        · rw [List.getElem?_eq_none q] at ho; cases ho
      rw [List.drop_eq_getElem_cons hlt]
      rw [List.getElem?_eq_getElem hlt] at ho
      rw [Option.some.inj ho]
    rw [hdr] at hrun
    have hEi : ∀ j, runR 0 es os = .error j → ErrD T (upd H' Tt (.tup [.int (i : Nat), v])) E j := fun j e => (k1 j e).mono s2
    have sH := s1.trans sT
    clear k1 hR sT hT
    generalize upd H' Tt (.tup [.int (i : Nat), v]) = G at s2 hRv hdi hEi sH ⊢
    have fin : runR 0 es os = .error i → ErrR T G (fun cls d H2 => wAsX K (.ref T.R) 5 (fun a cls d => tRaiseD K T.badd 5 3 a cls (fun cls d _ H => E cls d H)) (fun cls d _ H => E cls d H) { nx := fun σ H' => ∃ (di : Addr) (x3 x4 : Option V) (ei : List Ent), σ = [some (.ref x), some (.ref p), some (.ref di), x3, x4, Option.none] ∧ Same H H' ∧ DictAt T H' di ei ∧ runR 0 es os = runR (i + 1) ei (os.drop (i + 1)), rt := fun _ _ => False } cls d [some (.ref x), some (.ref p), some (.ref di), some (.int (i : Nat)), some v, Option.none] H2) := by
      intro he C hC dx2 fs H2 s3 hn h3
      have facts : PySem.W.exmOne K (.ref C) (.ref T.R) = some true ∧ PySem.W.subIn K (.ref C) (.type "BaseException") = some true := by
        simp only [List.mem_cons, List.not_mem_nil, or_false] at hC
        rcases hC with rfl | rfl
        · exact ⟨B.exS, B.sbS⟩
        · exact ⟨B.exM, B.sbM⟩
      refine ⟨true, facts.1, fun _ a ha => ?_, fun z => nomatch z⟩
      refine ⟨_, rfl, (by show 1 ≤ 1000; decide), fun a2 ha2 => bad_fin1 (Q := fun cls' d' H' => (([some (V.ref x), some (.ref p), some (.ref di), some (.int (i : Nat)), some v, Option.none] : L2.St).set 5 (some (.ref a)))[5]? = some (some (.ref a)) ∧ PySem.W.subIn K (.ref C) (.type "BaseException") = some true ∧ E cls' d' H') T.badd.oex T.badd.no ha2 fun d4 H4 s4 hn4 h4 => ⟨rfl, facts.2, ?_⟩⟩
      exact hEi i he d4 H4 (s3.trans s4) (none_up s3 hn4) h4
    refine ⟨_, rfl, _, rfl, di, ei, v, o, rfl, hdi, hRv, fun z => ?_, fun e z f => ?_, fun e z f d' H' s' hd' => ?_⟩
    · subst z
      exact fin (hrun.trans rfl)
    · subst z
      exact fin (hrun.trans (by show (if fullE ei e = true then Except.error i else _) = _; rw [if_pos f]))
    · subst z
      refine ⟨d', _, _, putE ei e, rfl, sH.trans s', hd', hrun.trans ?_⟩
      show (if fullE ei e = true then Except.error i else runR (i + 1) (putE ei e) _) = _
      rw [if_neg (by rw [f]; exact Bool.false_ne_true)]
  · rintro σ H' ⟨di, x3, x4, ei, rfl, s1, hdi, hrun⟩
    have hok : runR 0 es os = .ok ei := by
      rw [hrun, List.drop_eq_nil_of_le (by rw [paired_len hR]; exact Nat.le_refl _)]
      rfl
    have hS2 := hS1.same s1
    refine ⟨_, rfl, x, dx, _, rfl, s1 _ _ hx, rfl, _, rfl, x, di, es, ei, past, ahead, rfl, hS2, hdi, hpl, fun H2 b2 hS3 => ?_⟩
    exact k2 ei hok H2 ((But.of (s0.trans s1)).trans b2) hS3

/-! ### the draws -/
def spPen (K : PySem.W.Frag) : Sp := fun vs H Q _ => ∃ (a : Addr) (ns : List Int), vs = [.ref a] ∧ SqL K H a (ns.map V.int) ∧ ns.length ≤ 63 ∧ ∀ (p : Addr) (H' : Hp), Same H H' → Pen H' p 0 → Q (.ref p) H'
theorem ok_pen (T : Txt K mg) : FnOk P w K mg base CX0 1 T.a_pen T.fd_pen ["_law_script"] (spPen K) := by
  refine T.F_pen.ok sc_pen (fun vs H Q E h => ?_) (fun cdv A outer s H vs Q E hr h => ?_)
  · obtain ⟨a, ns, rfl, _⟩ := h; rfl
  · obtain ⟨a, ns, rfl, hS, hl, k⟩ := h
    refine ⟨_, pss_one (ps_ret (pe_lst (pa_cons (pe_callTy call_list_of (by rfl) T.n_list (by decide +kernel) (pa_cons (pe_slice sl_list (pv 0) (po_none) (po_some (pe_int))) (pa_nil))) (pa_cons (pe_int) (pa_cons (pe_int) (pa_nil)))))), ?_⟩
    obtain ⟨ms, em, lm⟩ := cut_ints ns none (some 63)
    refine ⟨_, rfl, _, rfl, a, _, rfl, hS, fun q hq => ?_⟩
    refine ⟨q, _, rfl, .inl (SqL.of upd_same), fun l hl => ?_⟩
    refine ⟨(by show 3 ≤ sizeLine; decide), fun p hp => k p _ ?_ ?_⟩
    · exact (same_new hq).trans ((same_new hl).trans (same_new hp))
    · refine ⟨l, ms, 0, 0, upd_same, ?_, by omega, by omega, by omega, by omega⟩
      rw [upd_ne (ne_of_none upd_same hp), upd_same, em]
def spDraw : Sp := fun vs H Q _ => ∃ (p : Addr) (m : Int) (n : Nat), vs = [.ref p, .int m] ∧ 0 < m ∧ m < 1267650600228229401496703205376 ∧ Pen H p n ∧ n < 100000 ∧ ∀ (r : Int) (H' : Hp), 0 ≤ r → r < m → Pen H' p (n + 1) → Fr p H H' → Q (.int r) H'
theorem ok_draw (T : Txt K mg) : FnOk P w K mg base CX0 1 T.a_draw T.fd_draw ["_law_pen_here", "_law_many"] spDraw := by
  refine T.F_draw.ok sc_draw (fun vs H Q E h => ?_) (fun cdv A outer s H vs Q E hr h => ?_)
  · obtain ⟨p, m, n, rfl, _⟩ := h; rfl
  · obtain ⟨p, m, n, rfl, hm, hm2, ⟨c, ns, i, g, hp, hc, i0, i1, g0, hl⟩, hn, k⟩ := h
    have cp : c ≠ p := pen_ne hp hc
    have mb : m.natAbs < 2 ^ 100 := by omega
    refine ⟨_, pss_cons (ps_if (pt_cmpR op_gt (pe_ix ix_list (pv 0) (pe_int) (fun _ _ => rfl)) (pe_int) (nomark _)) (pss_cons (ps_set (i := 2) sc_draw.nd rfl (Or.inl rfl) (pe_op op_modN (pe_callTy call_int1 (by rfl) T.n_int (by decide +kernel) (pa_cons (pe_ix ix_list (pv 0) (pe_int) (fun _ _ => rfl)) (pa_nil))) (pv 1)))
      (pss_cons (ps_asg (pe_op op_fdivW (pe_callTy call_int1 (by rfl) T.n_int (by decide +kernel) (pa_cons (pe_ix ix_list (pv 0) (pe_int) (fun _ _ => rfl)) (pa_nil))) (pv 1)) (pg_sub (pv 0) (pe_int) set_list))
      (pss_one (ps_ret (pv 2))))) (pss_nil))
      (pss_cons (ps_set (i := 3) sc_draw.nd rfl (Or.inl rfl) (pe_ix ix_list (pv 0) (pe_int) (fun _ _ => rfl)))
      (pss_cons (ps_asg (pe_op op_add (pv 3) (pe_int)) (pg_sub (pv 0) (pe_int) set_list))
      (pss_cons (ps_set (i := 4) sc_draw.nd rfl (Or.inl rfl) (pe_op op_add (pe_op op_mul (pe_int) (pv 3)) (pe_int)))
      (C8.pss_cut (ps_if (pt_cmpR (op_neD hr.units) (pe_ix ix_list (pv 0) (pe_int) (fun _ _ => rfl)) (pe_lst (pa_nil)) (nomark _)) (pss_one (ps_set (i := 4) sc_draw.nd rfl (Or.inl rfl) (pe_ix ix_list (pe_ix ix_list (pv 0) (pe_int) (fun _ _ => rfl)) (pe_op op_modN (pe_callTy call_int1 (by rfl) T.n_int (by decide +kernel) (pa_cons (pv 3) (pa_nil))) (pe_callB call_len_seq (by rfl) T.n_len (by decide +kernel) (pa_cons (pe_ix ix_list (pv 0) (pe_int) (fun _ _ => rfl)) (pa_nil)))) (fun _ _ => rfl)))) (pss_nil))
      (C8.pss_cut (ps_if (PW.pt (pw_and (pt_cmpR op_lt (pv 3) (pe_callB call_len_seq (by rfl) T.n_len (by decide +kernel) (pa_cons (pe_ix ix_list (pv 0) (pe_int) (fun _ _ => rfl)) (pa_nil))) (nomark _)) (pw_and1 (pt_cmpR op_ge (pe_callB call_abs (by rfl) T.n_abs (by decide +kernel) (pa_cons (pv 4) (pa_nil))) (pe_op op_pow (pe_int) (pe_int)) (nomark _))))) (pss_cons (ps_set (i := 5) sc_draw.nd rfl (Or.inl rfl) (pe_op op_add (pe_op op_mul (pe_int) (pe_op op_sub (pe_callB call_abs (by rfl) T.n_abs (by decide +kernel) (pa_cons (pv 4) (pa_nil))) (pe_op op_pow (pe_int) (pe_int)))) (pe_callTy call_int1 (by rfl) T.n_int (by decide +kernel) (pa_cons (pe_cmpR op_lt (pv 4) (pe_int) (nomark _)) (pa_nil)))))
      (pss_cons (ps_asg (pe_op op_fdivW (pe_callTy call_int1 (by rfl) T.n_int (by decide +kernel) (pa_cons (pv 5) (pa_nil))) (pv 1)) (pg_sub (pv 0) (pe_int) set_list))
      (pss_one (ps_ret (pe_op op_modN (pe_callTy call_int1 (by rfl) T.n_int (by decide +kernel) (pa_cons (pv 5) (pa_nil))) (pv 1)))))) (pss_nil))
      (pss_cons (ps_set (i := 6) sc_draw.nd rfl (Or.inl rfl) (pe_op op_modN (pe_callTy call_int1 (by rfl) T.n_int (by decide +kernel) (pa_cons (pe_op op_pow (pe_op op_add (pe_op op_add (pe_op op_modN (pe_callTy call_int1 (by rfl) T.n_int (by decide +kernel) (pa_cons (pv 4) (pa_nil))) (pe_int)) (pe_op op_mul (pe_int) (pv 3))) (pe_int)) (pe_int)) (pa_nil))) (pe_int)))
      (pss_cons (ps_set (i := 6) sc_draw.nd rfl (Or.inl rfl) (pe_op op_modN (pe_callTy call_int1 (by rfl) T.n_int (by decide +kernel) (pa_cons (pe_op op_pow (pe_op op_add (pe_op op_add (pe_op op_mul (pv 6) (pe_op op_add (pe_op op_mul (pe_int) (pv 3)) (pe_int))) (pe_op op_mul (pe_op op_mul (pe_int) (pv 3)) (pv 3))) (pe_int)) (pe_int)) (pa_nil))) (pe_int)))
      (pss_one (ps_ret (pe_op op_modN (pe_callTy call_int1 (by rfl) T.n_int (by decide +kernel) (pa_cons (pe_op op_fdivW (pv 6) (pe_int)) (pa_nil))) (pv 1))))))))))), ?_⟩
    refine ⟨_, rfl, p, _, _, _, rfl, rfl, SqL.of hp, rfl, _, _, rfl, rfl, _, rfl, ?_⟩
    refine ite2 (fun hg => ?_) (fun hg => ?_)
    · refine ⟨_, rfl, p, _, _, _, rfl, rfl, SqL.of hp, rfl, .inl ⟨_, rfl, ?_⟩⟩
      refine ⟨_, rfl, _, _, rfl, rfl, (by omega), ?_⟩
      refine ⟨_, rfl, p, _, _, _, rfl, rfl, SqL.of hp, rfl, .inl ⟨_, rfl, ?_⟩⟩
      refine ⟨_, rfl, _, _, rfl, rfl, wide_div hm mb (by decide) (by decide), ?_⟩
      refine ⟨_, rfl, p, _, _, _, rfl, rfl, hp, rfl, _, rfl, ?_⟩
      have fm := fmod_pos (x := g) hm
      refine k _ _ fm.1 fm.2 ⟨c, ns, i, g / m, upd_same, ?_, i0, by omega, Int.ediv_nonneg g0 (by omega), hl⟩ (fr_upd hp)
      rw [upd_ne cp]; exact hc
    · refine ⟨_, rfl, p, _, _, _, rfl, rfl, SqL.of hp, rfl, ?_⟩
      refine ⟨_, rfl, _, _, rfl, rfl, _, rfl, p, _, _, _, rfl, rfl, hp, rfl, ?_⟩
      -- the index is one more
      have f1 : Fr p H (upd H p (.lst [.ref c, .int (i + 1), .int g])) := fr_upd hp
      have hp1 : (upd H p (.lst [.ref c, .int (i + 1), .int g])) p = some (.lst [.ref c, .int (i + 1), .int g]) := upd_same
      have hc1 : (upd H p (.lst [.ref c, .int (i + 1), .int g])) c = some (.lst (ns.map V.int)) := by rw [upd_ne cp]; exact hc
      show _
      refine ⟨_, rfl, _, _, rfl, rfl, .inl ⟨by decide, by decide⟩, _, _, rfl, rfl, ?_⟩
      refine ⟨fun σ' H' => ∃ raw : Int, σ' = [some (.ref p), some (.int m), Option.none, some (.int i), some (.int raw), Option.none, Option.none] ∧ Same (upd H p (.lst [.ref c, .int (i + 1), .int g])) H', ?_, ?_⟩
      · refine ⟨_, rfl, p, _, _, _, rfl, rfl, SqL.of hp1, rfl, Nat.zero_le _, fun l hl0 => ?_⟩
        refine ⟨.list (ns.map PyData.int), .list [], .lst (SqL.of (same_new hl0 _ _ hc1)) (dp_ints ns), .lst (SqL.of upd_same) .nil, PySem.W.ke_shaped_ints ns, by decide +kernel, _, rfl, ?_⟩
        have s1 := same_new (o := .lst []) hl0
        cases ns with
        | nil => exact iteF ⟨_, rfl, s1⟩
        | cons z r =>
          refine iteT ?_
          refine ⟨_, rfl, p, _, _, _, rfl, rfl, SqL.of (s1 _ _ hp1), rfl, ?_⟩
          refine ⟨_, rfl, .inl ⟨_, rfl, ?_⟩⟩
          refine ⟨_, rfl, p, _, _, _, rfl, rfl, SqL.of (s1 _ _ hp1), rfl, c, _, rfl, .inl (SqL.of (s1 _ _ hc1)), _, _, rfl, rfl, ?_⟩
          have lp : (0 : Int) < (((z :: r).map V.int).length : Nat) := by rw [List.length_map, List.length_cons]; omega
          have fm := fmod_pos (x := i) lp
          have fm2 : i.fmod (((z :: r).map V.int).length : Nat) < (((z :: r).length : Nat) : Int) := by have := fm.2; rw [List.length_map] at this; rw [List.length_map]; exact this
          obtain ⟨y, hy⟩ := atI_in fm.1 fm2
          exact ⟨by omega, c, _, _, _, rfl, rfl, SqL.of (s1 _ _ hc1), hy, y, rfl, s1⟩
      · rintro σ' H' ⟨raw, rfl, s1⟩
        have hp2 := s1 _ _ hp1
        have hc2 := s1 _ _ hc1
        have f2 : Fr p H H' := f1.trans (same_fr s1)
        have penE : ∀ g' : Int, 0 ≤ g' → Pen (upd H' p (.lst [.ref c, .int (i + 1), .int g'])) p (n + 1) := fun g' h' => ⟨c, ns, i + 1, g', upd_same, by rw [upd_ne cp]; exact hc2, by omega, by omega, h', hl⟩
        refine ⟨fun σ'' H'' => σ'' = [some (.ref p), some (.int m), Option.none, some (.int i), some (.int raw), Option.none, Option.none] ∧ H'' = H', ?_, ?_⟩
        rotate_left
        · rintro σ'' H'' ⟨rfl, rfl⟩
          refine ⟨_, rfl, .inl ⟨_, rfl, ?_⟩⟩
          refine ⟨_, _, rfl, rfl, (by show (_ : Int) ≠ 0; decide), _, rfl, _, _, rfl, rfl, .inl ⟨by decide, by decide⟩, _, _, rfl, rfl, _, _, rfl, rfl, ?_⟩
          have r1 := fmod_pos (x := raw) (m := 2147483543) (by decide)
          refine ⟨_, _, rfl, rfl, ⟨by decide, by decide, stir1 r1.1 (by omega) i0 (by omega) (by decide) (by decide) (by decide) (by decide)⟩, .inl ⟨_, rfl, ?_⟩⟩
          refine ⟨_, _, rfl, rfl, (by show (_ : Int) ≠ 0; decide), ?_⟩
          have r2 : ∀ x : Int, 0 ≤ x.fmod 2147483629 ∧ x.fmod 2147483629 < 2147483629 := fun x => fmod_pos (by decide)
          refine ⟨_, rfl, _, rfl, _, _, rfl, rfl, .inl ⟨by decide, by decide⟩, _, _, rfl, rfl, _, _, rfl, rfl, .inl (small64 (r2 _).1 (Int.lt_trans (r2 _).2 (by decide))), ?_⟩
          refine ⟨_, rfl, _, _, rfl, rfl, .inl ⟨by decide, by decide⟩, _, rfl, _, _, rfl, rfl, .inr ⟨by omega, by omega⟩, _, _, rfl, rfl, _, _, rfl, rfl, ?_⟩
          refine ⟨_, _, rfl, rfl, ⟨by decide, by decide, stir2 (r2 _).1 (Int.lt_trans (r2 _).2 (by decide)) i0 (by omega) (by decide) (by decide) (by decide) (by decide) (by decide) (by decide)⟩, .inl ⟨_, rfl, ?_⟩⟩
          refine ⟨_, _, rfl, rfl, (by show (_ : Int) ≠ 0; decide), ?_⟩
          refine ⟨_, rfl, _, _, rfl, rfl, wide_div (b := 10) (by decide) (by decide) (by decide) (by decide), .inl ⟨_, rfl, ?_⟩⟩
          refine ⟨_, rfl, _, _, rfl, rfl, (by omega), ?_⟩
          have fm := fun x => fmod_pos (x := x) hm
          exact k _ _ (fm _).1 (fm _).2 ⟨c, ns, i + 1, g, hp2, hc2, by omega, by omega, g0, hl⟩ f2
        refine ⟨_, rfl, _, rfl, p, _, _, _, rfl, rfl, SqL.of hp2, rfl, c, _, rfl, .inl (SqL.of hc2), _, _, rfl, rfl, _, rfl, ?_⟩
        refine ite2 (fun hlt => ?_) (fun hlt => ?_)
        · refine ⟨_, rfl, _, rfl, _, _, rfl, rfl, ⟨by decide, by decide, by decide⟩, _, _, rfl, rfl, _, rfl, ?_⟩
          refine ite2 (fun hge => ?_) (fun hge => ?_)
          · have hge := of_decide_eq_true hge
            refine ⟨_, rfl, _, rfl, _, _, rfl, rfl, ⟨by decide, by decide, by decide⟩, _, _, rfl, rfl, _, _, rfl, rfl, .inl ⟨by decide, by decide⟩, ?_⟩
            refine ⟨_, rfl, _, _, rfl, rfl, .inr ⟨_, rfl, ?_⟩⟩
            refine ⟨_, _, rfl, rfl, ?_⟩
            have gpos : (0 : Int) ≤ 2 * ((if raw < 0 then -raw else raw) - 10 ^ (18 : Int).toNat) + (if decide (raw < 0) = true then 1 else 0) := by
              have : (0 : Int) ≤ (if decide (raw < 0) = true then 1 else 0) := by split <;> omega
              omega
            refine ⟨_, rfl, .inl ⟨_, rfl, ?_⟩⟩
            refine ⟨_, rfl, _, _, rfl, rfl, wide_div hm mb (by decide) (by decide), ?_⟩
            refine ⟨_, rfl, p, _, _, _, rfl, rfl, hp2, rfl, ?_⟩
            refine ⟨_, rfl, .inl ⟨_, rfl, ?_⟩⟩
            refine ⟨_, rfl, _, _, rfl, rfl, (by omega), ?_⟩
            have fm := fun x => fmod_pos (x := x) hm
            exact k _ _ (fm _).1 (fm _).2 (penE _ (Int.ediv_nonneg gpos (by omega))) (f2.trans (fr_upd hp2))
          · exact ⟨rfl, rfl⟩
        · exact ⟨rfl, rfl⟩

def spPick (K : PySem.W.Frag) : Sp := fun vs H Q _ => ∃ (p l : Addr) (xs : List V) (n : Nat), vs = [.ref p, .ref l] ∧ SqL K H l xs ∧ l ≠ p ∧ 0 < xs.length ∧ xs.length < 1000000 ∧ Pen H p n ∧ n < 100000 ∧ ∀ (x : V) (H' : Hp), x ∈ xs → Pen H' p (n + 1) → Fr p H H' → Q x H'
theorem ok_pick (T : Txt K mg) : FnOk P w K mg base CX0 2 T.a_pick T.fd_pick ["_law_pen_here", "_law_some"] (spPick K) := by
  refine T.F_pick.ok sc_pick (fun vs H Q E h => ?_) (fun cdv A outer s H vs Q E hr h => ?_)
  · obtain ⟨p, l, xs, n, rfl, _⟩ := h; rfl
  · obtain ⟨p, l, xs, n, rfl, hS, hne, h0, h1, hP, hn, k⟩ := h
    refine ⟨_, pss_one (ps_ret (pe_ix ix_list (pv 1) (pe_call (ok_draw T) (hr.mono (by decide)) rfl T.m_draw T.F_draw.kp (b_draw T) .nil pass0 (pa_cons (pv 0) (pa_cons (pe_callB call_len_seq (by rfl) T.n_len (by decide +kernel) (pa_cons (pv 1) (pa_nil))) (pa_nil)))) (fun _ _ => rfl))), ?_⟩
    refine ⟨_, rfl, _, rfl, _, rfl, l, xs, rfl, .inl hS, p, _, n, rfl, (by omega), (by omega), hP, hn, fun r H' r0 r1 hP' fr => ?_⟩
    obtain ⟨x, hx, he⟩ := atI_any r0 r1
    exact ⟨l, xs, _, x, rfl, rfl, fr.seq hne hS, he, k x H' hx hP' fr⟩
/-! ### what is neither the pen nor a table stays -/
open Classical in
noncomputable def core (p : Addr) (H : Hp) : Hp := fun b => if b = p ∨ ∃ ps, H b = some (.tbl ps) then Option.none else H b
theorem core_sub {p : Addr} {H : Hp} : Same (core p H) H := fun b o e => by
  unfold core at e
  split at e
  · cases e
  · exact e
theorem core_at {p : Addr} {H : Hp} {a : Addr} {o : HO} (h : H a = some o) (n : a ≠ p) (nt : ∀ ps, o ≠ .tbl ps) : core p H a = some o := by
  unfold core
  rw [if_neg]
  · exact h
  · rintro (z | ⟨ps, z⟩)
    · exact n z
    · rw [h] at z
      exact nt ps (Option.some.inj z)
theorem core_of {p : Addr} {H : Hp} {a : Addr} {o : HO} (h : core p H a = some o) : a ≠ p ∧ (∀ ps, o ≠ .tbl ps) ∧ H a = some o := by
  have h2 := core_sub _ _ h
  unfold core at h
  split at h
  · cases h
  · rename_i n
    exact ⟨fun z => n (.inl z), fun ps z => n (.inr ⟨ps, z ▸ h2⟩), h2⟩
theorem core_fr {p : Addr} {H H' : Hp} (e : Fr p H H') : Same (core p H) H' := fun b o q => by
  obtain ⟨q1, _, q3⟩ := core_of q
  exact e b o q1 q3
theorem core_same {p : Addr} {H H' : Hp} (e : Same H H') : Same (core p H) H' := fun b o q => e b o (core_of q).2.2
theorem core_up {p : Addr} {H H' : Hp} (e : Same (core p H) H') : Same (core p H) (core p H') := fun b o q => by
  obtain ⟨q1, q2, _⟩ := core_of q
  exact core_at (e b o q) q1 q2
theorem SqL.same {K : PySem.W.Frag} {H H' : Hp} {a : Addr} {xs : List V} (s : Same H H') (h : SqL K H a xs) : SqL K H' a xs := by
  rcases h with (h | ⟨o, h⟩) | h
  · exact .inl (.inl (s _ _ h))
  · exact .inl (.inr ⟨o, s _ _ h⟩)
  · exact .inr h

theorem atI_nat {α : Type} {xs : List α} {r : Int} (h0 : 0 ≤ r) (h1 : r < (xs.length : Int)) : ∃ c, c ∈ xs ∧ atI xs r = some c := by
  have h : r.toNat < xs.length := by omega
  refine ⟨xs[r.toNat], List.getElem_mem h, ?_⟩
  unfold atI ixN
  rw [if_pos h0, if_pos h1]
  show xs[r.toNat]? = _
  exact List.getElem?_eq_getElem h
/-- a letter of a text is drawn -/
def spPickS : Sp := fun vs H Q _ => ∃ (p : Addr) (z : Str) (n : Nat), vs = [.ref p, .str z] ∧ 0 < z.length ∧ z.length < 1000000 ∧ Pen H p n ∧ n < 100000 ∧ ∀ (c : Nat) (H' : Hp), c ∈ z.cps.toList → Pen H' p (n + 1) → Fr p H H' → Q (.str ⟨#[c]⟩) H'
theorem ok_pickS (T : Txt K mg) : FnOk P w K mg base CX0 2 T.a_pick T.fd_pick ["_law_pen_here", "_law_some"] spPickS := by
  refine T.F_pick.ok sc_pick (fun vs H Q E h => ?_) (fun cdv A outer s H vs Q E hr h => ?_)
  · obtain ⟨p, z, n, rfl, _⟩ := h; rfl
  · obtain ⟨p, z, n, rfl, h0, h1, hP, hn, k⟩ := h
    have hz : z.length ≤ sizeLine := by rw [sizeLine_eq]; omega
    refine ⟨_, pss_one (ps_ret (pe_ix ix_str (pv 1) (pe_call (ok_draw T) (hr.mono (by decide)) rfl T.m_draw T.F_draw.kp (b_draw T) .nil pass0 (pa_cons (pv 0) (pa_cons (pe_callB call_len_str (by rfl) T.n_len (by decide +kernel) (pa_cons (pv 1) (pa_nil))) (pa_nil)))) (fun _ _ => rfl))), ?_⟩
    refine ⟨_, rfl, _, rfl, _, rfl, z, rfl, hz, p, _, n, rfl, (by omega), (by omega), hP, hn, fun r H' r0 r1 hP' fr => ?_⟩
    have hl : z.length = z.cps.toList.length := (Array.length_toList).symm
    obtain ⟨c, hc, he⟩ := atI_nat (xs := z.cps.toList) r0 (by omega)
    exact ⟨z, r, _, rfl, rfl, hz, he, k _ H' hc hP' fr⟩
/-- a text of small letters -/
def low (l : List Nat) : Prop := ∀ c ∈ l, 97 ≤ c ∧ c ≤ 122
theorem low_app {a b : List Nat} (ha : low a) (hb : low b) : low (a ++ b) := fun c hc => (List.mem_append.mp hc).elim (ha c) (hb c)
theorem letter_ok : ∀ c : Nat, c < 123 → 97 ≤ c → Unicode.isAlpha c = true ∧ Unicode.isLower c = true ∧ (Unicode.isUpper c || Unicode.isTitle c) = false := by decide +kernel
theorem name_low {z : Str} (h : low z.cps.toList) (h1 : 1 ≤ z.length) (h2 : z.length ≤ 8) : nameB (.str z) = true := by
  have hl : z.length = z.cps.toList.length := (Array.length_toList).symm
  have a1 : Txt.isascii z = true := by
    unfold Txt.isascii
    rw [← Array.all_toList, List.all_eq_true]
    exact fun c hc => decide_eq_true (by have := (h c hc).2; omega)
  have a2 : Txt.isalpha z = true := by
    unfold Txt.isalpha
    rw [Bool.and_eq_true, ← Array.all_toList, List.all_eq_true]
    exact ⟨decide_eq_true (by omega), fun c hc => (letter_ok c (by have := (h c hc).2; omega) (h c hc).1).1⟩
  have a3 : Txt.islower z = true := by
    unfold Txt.islower
    rw [Bool.and_eq_true, ← Array.any_toList, ← Array.any_toList, List.any_eq_true]
    constructor
    · have : 0 < z.cps.toList.length := by omega
      exact ⟨z.cps.toList[0], List.getElem_mem this, (letter_ok _ (by have := (h _ (List.getElem_mem this)).2; omega) (h _ (List.getElem_mem this)).1).2.1⟩
    · rw [Bool.not_eq_true', List.any_eq_false]
      intro c hc
      rw [(letter_ok c (by have := (h c hc).2; omega) (h c hc).1).2.2]
      exact Bool.false_ne_true
  show (decide (1 ≤ (z.length : Int) ∧ (z.length : Int) ≤ 8) && _) = true
  rw [a1, a2, a3, decide_eq_true (by omega)]
  rfl
theorem joinL_ones : ∀ l : List Nat, TL.joinL [] (l.map fun c => [c]) = l
  | [] => rfl
  | [c] => rfl
  | c :: d :: r => by
    have ih := joinL_ones (d :: r)
    show [c] ++ ([] ++ TL.joinL [] ((d :: r).map fun c => [c])) = _
    rw [ih]
    rfl
theorem join_ones (l : List Nat) : Txt.join "" (l.map fun c => (⟨#[c]⟩ : Str)) = ⟨l.toArray⟩ := by
  have h := SX.join_S [] (l.map fun c => [c])
  rw [List.map_map, joinL_ones] at h
  exact h
theorem pen_updL {H1 H2 : Hp} {q L : Addr} {n m : Nat} {o : HO} (h1 : Pen H1 q n) (hL : H1 L = Option.none) (f : Fr q H1 H2) (h2 : Pen H2 q m) : Pen (upd H2 L o) q m := by
  have nL : L ≠ q := h1.neq hL
  obtain ⟨cc, ns, i, g, p1, p2, _⟩ := h1
  obtain ⟨ys, hy⟩ := f.head _ _ p1
  obtain ⟨c', ns', i', g', q1, q2, q3⟩ := h2
  have e : c' = cc := by
    have z := Option.some.inj (hy.symm.trans q1)
    injection z with z
    injection z with z _
    injection z with z
    exact z.symm
  have nc : c' ≠ L := by rw [e]; exact ne_of_none p2 hL
  exact ⟨c', ns', i', g', by rw [upd_ne (Ne.symm nL)]; exact q1, by rw [upd_ne nc]; exact q2, q3⟩
theorem fr_updL {H1 H2 : Hp} {q L : Addr} {o : HO} (nL : L ≠ q) (hL : H1 L = Option.none) (f : Fr q H1 H2) : Fr q H1 (upd H2 L o) := ⟨fun b u n e => by rw [upd_ne (ne_of_none e hL)]; exact f b u n e, fun v xs e => by
  obtain ⟨ys, h⟩ := f.head v xs e
  exact ⟨ys, by rw [upd_ne (Ne.symm nL)]; exact h⟩⟩
theorem sum_ones : ∀ l : List Nat, ((l.map fun c => (⟨#[c]⟩ : Str)).map (·.length)).sum = l.length
  | [] => rfl
  | _ :: r => by
    rw [List.map_cons, List.map_cons, List.sum_cons, sum_ones r]
    show 1 + r.length = r.length + 1
    omega
/-- a name -/
def spName2 : Sp := fun vs H Q _ => ∃ (q : Addr) (n : Nat), vs = [.ref q] ∧ Pen H q n ∧ n < 90000 ∧ ∀ (z : Str) (H' : Hp), nameB (.str z) = true → Pen H' q (n + 5) → Fr q H H' → Q (.str z) H'
theorem ok_name (T : Txt K mg) : FnOk P w K mg base CX0 3 T.a_name T.fd_name ["_law_pen_here"] spName2 := by
  refine T.F_name.ok sc_name (fun vs H Q E h => ?_) (fun cdv A outer s H vs Q E hr h => ?_)
  · obtain ⟨q, n, rfl, _⟩ := h; rfl
  · obtain ⟨q, n, rfl, hP, hn, k⟩ := h
    refine ⟨_, pss_cons (ps_set (i := 1) sc_name.nd rfl (Or.inl rfl) (pe_join (pe_str) (pe_lc (own := [("_law_lap", 2)]) (g := gName 2) (tt := tYes) rfl sc_name.nd (pi_range1 (by rfl) T.n_range (pa_cons (pe_op op_add (pe_int) (pe_call (ok_draw T) (hr.mono (by decide)) rfl T.m_draw T.F_draw.kp (b_draw T) .nil pass0 (pa_cons (pv 0) (pa_cons (pe_int) (pa_nil))))) (pa_nil))) (blkOk_by (own := [("_law_lap", 2)]) (N := ["_law_pen_here", "_law_word", "_law_lap"]) (sc := defScope s_name) (by decide +kernel)) (fun _ _ _ _ _ => pg_name (i := 2) sc_name.nd rfl (Or.inl rfl)) (fun _ _ _ _ _ => pts_nil) (fun _ _ _ _ _ => pe_call (ok_pickS T) (hr.mono (by decide)) rfl T.m_pick T.F_pick.kp (b_pick T) .nil pass0 (pa_cons (pv 0) (pa_cons pe_str pa_nil))))))
      (pss_one (ps_ret (pe_call (ok_pick T) (hr.mono (by decide)) rfl T.m_pick T.F_pick.kp (b_pick T) .nil pass0 (pa_cons (pv 0) (pa_cons (pe_lst (pa_cons (pv 1) (pa_cons (pe_str) (pa_cons (pe_str) (pa_cons (pe_str) (pa_cons (pe_str) (pa_cons (pe_str) (pa_cons (pe_op op_add_str (pv 1) pe_str) (pa_cons (pe_op op_add_str (pv 1) pe_str) (pa_nil)))))))))) (pa_nil)))))), ?_⟩
    refine ⟨⟨_, rfl⟩, _, rfl, q, 3, n, rfl, by decide, by decide, hP, by omega, fun r H1 r0 r1 hP1 f1 => ?_⟩
    refine ⟨_, _, rfl, rfl, 1 + r, rfl, by omega, by omega, fun L hL => ?_⟩
    have nLq : L ≠ q := hP1.neq hL
    refine lc_range (lo := 0) (n := (1 + r).toNat) (fun t H' => ∃ ls : List Nat, H' L = some (.lst ((ls.map fun c => (⟨#[c]⟩ : Str)).map V.str)) ∧ ls.length = t ∧ low ls ∧ Pen H' q (n + 1 + t) ∧ Fr q H1 H')
      ⟨[], upd_same, rfl, fun _ z => absurd z List.not_mem_nil, hP1.same (same_new hL), same_fr (same_new hL)⟩ ?_ ?_
    · rintro t H' ht ⟨ls, hL', hl, hm, hP', f'⟩
      refine ⟨rfl, ?_⟩
      refine ⟨_, rfl, q, "abcdefghijklmnopqrstuvwxyz", n + 1 + t, rfl, by decide, by decide, hP', by omega, fun c H2 hc hP2 f2 => ?_⟩
      have hc2 : low [c] := by
        have all : ∀ c ∈ ("abcdefghijklmnopqrstuvwxyz" : Str).cps.toList, 97 ≤ c ∧ c ≤ 122 := by decide
        intro d hd
        rw [List.mem_singleton] at hd
        subst hd
        exact all _ hc
      refine ⟨_, f2 _ _ nLq hL', by rw [List.length_map, List.length_map, hl, sizeLine_eq]; omega, ls ++ [c], ?_, by rw [List.length_append, hl]; rfl, low_app hm hc2, pen_updL hP1 hL (f'.trans f2) hP2, fr_updL nLq hL (f'.trans f2)⟩
      rw [upd_same, List.map_append, List.map_append]
      rfl
    · rintro H' ⟨ls, hL', hl, hm, hP', f'⟩
      refine ⟨_, L, _, rfl, rfl, .inl (SqL.of hL'), ?_, ?_⟩
      · rw [sum_ones]
        show ls.length + _ * 0 ≤ _
        omega
      rw [join_ones]
      have lw : (⟨ls.toArray⟩ : Str).length = ls.length := SX.S_len ls
      have l1 : 1 ≤ ls.length ∧ ls.length ≤ 3 := by omega
      have lowz : low (⟨ls.toArray⟩ : Str).cps.toList := hm
      have la : ("a" : Str).length = 1 := by decide
      have lz : ("zzzzz" : Str).length = 5 := by decide
      have nb : nameB (.str ⟨ls.toArray⟩) = true := name_low lowz (by omega) (by omega)
      have app : ∀ u : Str, low u.cps.toList → u.length ≤ 5 → nameB (.str ((⟨ls.toArray⟩ : Str) ++ u)) = true := fun u hu hl5 => by
        refine name_low ?_ ?_ ?_
        · show low ((⟨ls.toArray⟩ : Str).cps ++ u.cps).toList
          rw [Array.toList_append]
          exact low_app lowz hu
        · rw [slen]; omega
        · rw [slen]; omega
      refine ⟨_, rfl, _, rfl, _, rfl, _, _, rfl, rfl, (by rw [lw, la, sizeLine_eq]; omega), _, rfl, _, _, rfl, rfl, (by rw [lw, lz, sizeLine_eq]; omega), (by show 8 ≤ sizeLine; decide), fun M hM => ?_⟩
      have sM := same_new (o := .lst [.str ⟨ls.toArray⟩, .str "a", .str "aa", .str "b", .str "z", .str "ab", .str ((⟨ls.toArray⟩ : Str) ++ "a"), .str ((⟨ls.toArray⟩ : Str) ++ "zzzzz")]) hM
      refine ⟨q, M, _, n + 1 + (1 + r).toNat, rfl, SqL.of upd_same, hP'.neq hM, (by show 0 < 8; decide), (by show 8 < 1000000; decide), hP'.same sM, by omega, fun x H2 hx hP2 f2 => ?_⟩
      have hx2 : ∃ z, x = .str z ∧ nameB (.str z) = true := by
        simp only [List.mem_cons, List.not_mem_nil, or_false] at hx
        rcases hx with rfl | rfl | rfl | rfl | rfl | rfl | rfl | rfl
        · exact ⟨_, rfl, nb⟩
        · exact ⟨_, rfl, by decide +kernel⟩
        · exact ⟨_, rfl, by decide +kernel⟩
        · exact ⟨_, rfl, by decide +kernel⟩
        · exact ⟨_, rfl, by decide +kernel⟩
        · exact ⟨_, rfl, by decide +kernel⟩
        · exact ⟨_, rfl, app _ (by show ∀ c ∈ ("a" : Str).cps.toList, _; decide) (by decide)⟩
        · exact ⟨_, rfl, app _ (by show ∀ c ∈ ("zzzzz" : Str).cps.toList, _; decide) (by decide)⟩
      obtain ⟨z, rfl, hz⟩ := hx2
      exact k z H2 hz (hP2.mono (by omega)) (f1.trans ((f'.trans (same_fr sM)).trans f2))

theorem tNil_to {σ : L2.St} {H : Hp} {Q : List V → Hp → Prop} (h : Q [] H) : tNil σ H Q := h
/-- at r a row that is in order -/
structure RowOk (T : Txt K mg) (H : Hp) (r : Addr) (e : Ent) : Prop where
  at_ : ∃ y, H r = some (.tup [.str e.n, .ref y, .int e.pr]) ∧ WhE T H y e.tr e.p e.b e.a
  pa : Parts e.tr e.p e.b e.a
  pr : 0 ≤ e.pr ∧ e.pr ≤ 1000000000000
  nm : nameB (.str e.n) = true
theorem RowOk.same {T : Txt K mg} {H H' : Hp} (s : Same H H') {r : Addr} {e : Ent} (h : RowOk T H r e) : RowOk T H' r e := by
  obtain ⟨y, h1, h2⟩ := h.at_
  exact ⟨⟨y, s _ _ h1, h2.same s⟩, h.pa, h.pr, h.nm⟩
theorem RowOk.row {T : Txt K mg} {H : Hp} {r : Addr} {e : Ent} (h : RowOk T H r e) : RowV T H (.ref r) (some e) := by
  obtain ⟨y, h1, h2⟩ := h.at_
  exact .three h1 (.good e h.nm h2 h.pa h.pr)
theorem WhE.fr {T : Txt K mg} {H H' : Hp} {q y : Addr} {n : Nat} {tr : Bool} {p b a : Int} (hP : Pen H q n) (f : Fr q H H') (h : WhE T H y tr p b a) : WhE T H' y tr p b a := by
  obtain ⟨C, g, wc, dx, hx⟩ := h
  exact ⟨C, g, wc, dx, f _ _ (fun z => by rw [z] at hx; exact (hP.at.elim fun _ z2 => by rw [hx] at z2; cases z2)) hx⟩
def spRow (T : Txt K mg) : Sp := fun vs H Q _ => ∃ (q L : Addr) (n : Nat) (ns : List Str), vs = [.ref q, .ref L] ∧ Pen H q n ∧ n < 90000 ∧ SqL K H L (ns.map V.str) ∧ L ≠ q ∧ 0 < ns.length ∧ ns.length < 100 ∧ (∀ z ∈ ns, nameB (.str z) = true) ∧
  ∀ (r : Addr) (e : Ent) (H' : Hp), RowOk T H' r e → H r = Option.none → r ≠ q → Pen H' q (n + 8) → Fr q H H' → Q (.ref r) H'
theorem ok_row (HP : PrF lawFile P) (T : Txt K mg) (W : Whl T) : FnOk P w K mg base CX0 7 T.a_row T.fd_row ["_law_pen_here", "_law_names"] (spRow T) := by
  refine T.F_row.ok sc_row (fun vs H Q E h => ?_) (fun cdv A outer s H vs Q E hr h => ?_)
  · obtain ⟨q, L, n, ns, rfl, _⟩ := h; rfl
  · obtain ⟨q, L, n, ns, rfl, hP, hn, hS, nL, h0, h1, hns, k⟩ := h
    refine ⟨_, pss_cons (ps_set (i := 2) sc_row.nd rfl (Or.inl rfl) (pe_mkR W.W.mkr ((ok_Wheel_init T).raw (b_Wheel_init T) .nil) (hr.mono (by decide)) passL rfl T.m_Wheel (pa_cons (pe_op op_add (pe_int) (pe_call (ok_draw T) (hr.mono (by decide)) rfl T.m_draw T.F_draw.kp (b_draw T) .nil pass0 (pa_cons (pv 0) (pa_cons (pe_int) (pa_nil))))) (pa_cons (pe_call (ok_draw T) (hr.mono (by decide)) rfl T.m_draw T.F_draw.kp (b_draw T) .nil pass0 (pa_cons (pv 0) (pa_cons (pe_int) (pa_nil)))) (pa_cons (pe_call (ok_draw T) (hr.mono (by decide)) rfl T.m_draw T.F_draw.kp (b_draw T) .nil pass0 (pa_cons (pv 0) (pa_cons (pe_int) (pa_nil)))) (pa_nil))))))
      (pss_cons (ps_set (i := 2) sc_row.nd rfl (Or.inl rfl) (pe_call (ok_pick T) (hr.mono (by decide)) rfl T.m_pick T.F_pick.kp (b_pick T) .nil pass0 (pa_cons (pv 0) (pa_cons (pe_lst (pa_cons (pv 2) (pa_cons (pe_mkR W.G.mkr ((ok_Grid_init HP T).raw (b_Grid_init T) .nil) (hr.mono (by decide)) passL rfl T.m_Grid (pa_cons (pe_op op_add (pe_int) (pe_call (ok_draw T) (hr.mono (by decide)) rfl T.m_draw T.F_draw.kp (b_draw T) .nil pass0 (pa_cons (pv 0) (pa_cons (pe_int) (pa_nil))))) (pa_nil))) (pa_nil)))) (pa_nil)))))
      (pss_one (ps_ret (pe_tup (pa_cons (pe_call (ok_pick T) (hr.mono (by decide)) rfl T.m_pick T.F_pick.kp (b_pick T) .nil pass0 (pa_cons (pv 0) (pa_cons (pv 1) (pa_nil)))) (pa_cons (pv 2) (pa_cons (pe_call (ok_pick T) (hr.mono (by decide)) rfl T.m_pick T.F_pick.kp (b_pick T) .nil pass0 (pa_cons (pv 0) (pa_cons (pe_lst (pa_cons (pe_int) (pa_cons (pe_call (ok_draw T) (hr.mono (by decide)) rfl T.m_draw T.F_draw.kp (b_draw T) .nil pass0 (pa_cons (pv 0) (pa_cons (pe_op op_add (pe_op op_pow (pe_int) (pe_int)) (pe_int)) (pa_nil)))) (pa_cons (pe_op op_pow (pe_int) (pe_int)) (pa_nil))))) (pa_nil)))) (pa_nil)))))))), ?_⟩
    have hw : CPow 10 12 := ⟨by decide, by decide, by decide⟩
    have e12 : (10 : Int) ^ Int.toNat 12 = 1000000000000 := by decide
    refine ⟨_, rfl, q, 90, n, rfl, by decide, by decide, hP, by omega, fun p H1 p0 p1 hP1 f1 => ?_⟩
    refine ⟨_, _, rfl, rfl, ?_⟩
    refine ⟨_, rfl, q, 4, n + 1, rfl, by decide, by decide, hP1, by omega, fun b H2 b0 b1 hP2 f2 => ?_⟩
    refine ⟨_, rfl, q, 4, n + 1 + 1, rfl, by decide, by decide, hP2, by omega, fun a H3 a0 a1 hP3 f3 => ?_⟩
    refine tNil_to fun y dy hy hdy _ => okW T W hy hdy ⟨by omega, by omega⟩ ⟨b0, by omega⟩ ⟨a0, by omega⟩ fun H4 s4 w4 => ⟨rfl, ?_⟩
    have F4 := ((f1.trans f2).trans f3).trans (same_fr s4)
    have hP4 := hP3.same s4
    have wy : WhE T H4 y false (2 + p) b a := ⟨_, _, W.W, w4⟩
    clear w4 s4 hP1 hP2 hP3 f1 f2 f3
    refine ⟨_, rfl, _, rfl, _, rfl, q, 9, n + 1 + 1 + 1, rfl, by decide, by decide, hP4, by omega, fun g H5 g0 g1 hP5 f5 => ⟨_, _, rfl, rfl, ?_⟩⟩
    refine tNil_to fun y2 dy2 hy2 hdy2 _ => okG T W hy2 hdy2 ⟨by omega, by omega⟩ fun H6 s6 w6 => ⟨rfl, ?_⟩
    have hP6 := hP5.same s6
    have F6 := (F4.trans f5).trans (same_fr s6)
    have wy := (wy.fr hP4 f5).same s6
    have wy2 : WhE T H6 y2 true (2 + g) 0 0 := ⟨_, _, W.G, w6⟩
    clear w6 s6 hP4 hP5 f5 F4
    refine tNil_to ⟨(by show 2 ≤ sizeLine; decide), fun M hM => ?_⟩
    have sM := same_new (o := .lst [.ref y, .ref y2]) hM
    have nM := hP6.neq hM
    refine ⟨q, M, [.ref y, .ref y2], n + 1 + 1 + 1 + 1, rfl, SqL.of upd_same, nM, (by show 0 < 2; decide), (by show 2 < 1000000; decide), hP6.same sM, by omega, fun x H7 hx hP7 f7 => ?_⟩
    have F7 := (F6.trans (same_fr sM)).trans f7
    have hx2 : ∃ (z : Addr) (tr : Bool) (p b a : Int), x = .ref z ∧ WhE T H7 z tr p b a ∧ Parts tr p b a := by
      simp only [List.mem_cons, List.not_mem_nil, or_false] at hx
      rcases hx with rfl | rfl
      · exact ⟨y, _, _, _, _, rfl, (wy.same sM).fr (hP6.same sM) f7, ⟨by omega, by omega⟩, ⟨b0, by omega⟩, ⟨a0, by omega⟩, fun z => by cases z⟩
      · exact ⟨y2, _, _, _, _, rfl, (wy2.same sM).fr (hP6.same sM) f7, ⟨by omega, by omega⟩, ⟨by decide, by decide⟩, ⟨by decide, by decide⟩, fun _ => ⟨rfl, rfl⟩⟩
    obtain ⟨z, tr, pp, bb, aa, rfl, wz, paz⟩ := hx2
    clear hx wy wy2 f7 sM hP6 F6
    have hS7 := F7.seq nL hS
    refine ⟨_, rfl, _, rfl, q, L, ns.map V.str, n + 1 + 1 + 1 + 1 + 1, rfl, hS7, nL, by rw [List.length_map]; exact h0, by rw [List.length_map]; omega, hP7, by omega, fun x H8 hx hP8 f8 => ?_⟩
    obtain ⟨nm, hnm, rfl⟩ := List.mem_map.mp hx
    have F8 := F7.trans f8
    have wz := wz.fr hP7 f8
    clear hx f8 hP7 F7 hS7
    refine ⟨_, rfl, _, rfl, ?_⟩
    refine ⟨_, rfl, _, _, rfl, rfl, hw, _, _, rfl, rfl, q, _, n + 1 + 1 + 1 + 1 + 1 + 1, rfl, (by decide), (by decide), hP8, by omega, fun pr H9 pr0 pr1 hP9 f9 => ?_⟩
    have F9 := F8.trans f9
    have wz := wz.fr hP8 f9
    clear hP8 f9 F8
    refine ⟨_, _, rfl, rfl, hw, (by show 3 ≤ sizeLine; decide), fun N hN => ?_⟩
    have sN := same_new (o := .lst [.int 0, .int pr, .int (10 ^ Int.toNat 12)]) hN
    refine ⟨q, N, [.int 0, .int pr, .int (10 ^ Int.toNat 12)], n + 1 + 1 + 1 + 1 + 1 + 1 + 1, rfl, SqL.of upd_same, hP9.neq hN, (by show 0 < 3; decide), (by show 3 < 1000000; decide), hP9.same sN, by omega, fun x H10 hx hP10 f10 => ?_⟩
    have hx2 : ∃ i : Int, x = .int i ∧ 0 ≤ i ∧ i ≤ 1000000000000 := by
      rw [e12] at hx
      simp only [List.mem_cons, List.not_mem_nil, or_false] at hx
      rcases hx with rfl | rfl | rfl
      · exact ⟨_, rfl, by decide, by decide⟩
      · exact ⟨_, rfl, pr0, by rw [e12] at pr1; omega⟩
      · exact ⟨_, rfl, by decide, by decide⟩
    obtain ⟨pc, rfl, pc0, pc1⟩ := hx2
    have F10 := (F9.trans (same_fr sN)).trans f10
    have wz := (wz.same sN).fr (hP9.same sN) f10
    refine tNil_to ⟨(by show 3 ≤ sizeLine; decide), fun r hr0 => ?_⟩
    have sR := same_new (o := .tup [.str nm, .ref z, .int pc]) hr0
    have hr1 : H r = Option.none := by
      by_cases hq : r = q
      · exact absurd hq (hP10.neq hr0)
      · match e : H r with
        | Option.none => rfl
        | some o => rw [F10 _ _ hq e] at hr0; cases hr0
    exact k r ⟨nm, tr, pp, bb, aa, pc⟩ _ ⟨⟨z, upd_same, wz.same sR⟩, paz, ⟨pc0, pc1⟩, hns nm hnm⟩ hr1 (hP10.neq hr0) (hP10.same sR) (F10.trans (same_fr sR))

theorem fr_del {q : Addr} {H H' : Hp} (f : Fr q H H') : Same (del H q) (del H' q) := fun b o e => by
  by_cases n : b = q
  · rw [n, del_same] at e; cases e
  · rw [del_ne n] at e ⊢
    exact f b o n e
theorem WhE.del {T : Txt K mg} {H : Hp} {q y : Addr} {n : Nat} {tr : Bool} {p b a : Int} (hP : Pen H q n) (h : WhE T H y tr p b a) : WhE T (del H q) y tr p b a := by
  obtain ⟨C, g, wc, dx, hx⟩ := h
  refine ⟨C, g, wc, dx, ?_⟩
  rw [del_ne]
  · exact hx
  · rintro rfl
    obtain ⟨_, z⟩ := hP.at
    rw [hx] at z
    cases z
def spBad (T : Txt K mg) : Sp := fun vs H Q _ => ∃ (q r : Addr) (n : Nat) (e : Ent), vs = [.ref q, .ref r] ∧ Pen H q n ∧ n < 90000 ∧ RowOk T H r e ∧ ∀ (v : V) (H' : Hp), RowV T (del H' q) v Option.none → Pen H' q (n + 1) → Fr q H H' → Q v H'
theorem ok_bad (HP : PrF lawFile P) (T : Txt K mg) (W : Whl T) : FnOk P w K mg base CX0 6 T.a_bad T.fd_bad ["_law_pen_here", "_law_row_here"] (spBad T) := by
  refine T.F_bad.ok sc_bad (fun vs H Q E h => ?_) (fun cdv A outer s H0 vs Q E hr h => ?_)
  · obtain ⟨q, r, n, e, rfl, _⟩ := h; rfl
  · obtain ⟨q, r, n, e, rfl, P0, hn, hR, k⟩ := h
    obtain ⟨y, hr0, wy0⟩ := hR.at_
    have ln := (name_len hR.nm).2
    have hw : CPow 10 12 := ⟨by decide, by decide, by decide⟩
    have l8 : ("abcdefgh" : Str).length = 8 := by decide
    refine ⟨_, pss_cons (ps_asg (pv 1) (pg_tup rfl (pgs_cons (pg_name (i := 2) sc_bad.nd rfl (Or.inl rfl)) (pgs_cons (pg_name (i := 3) sc_bad.nd rfl (Or.inl rfl)) (pgs_cons (pg_name (i := 4) sc_bad.nd rfl (Or.inl rfl)) (pgs_nil))))))
      (pss_cons (ps_set (i := 5) sc_bad.nd rfl (Or.inl rfl) (pe_lst (pa_cons (pe_non) (pa_cons (pe_int) (pa_cons (pe_str) (pa_cons (pe_lst (pa_cons (pv 2) (pa_cons (pv 3) (pa_cons (pv 4) (pa_nil))))) (pa_cons (pe_tup (pa_cons (pv 2) (pa_cons (pv 3) (pa_nil)))) (pa_cons (pe_tup (pa_cons (pv 2) (pa_cons (pv 3) (pa_cons (pv 4) (pa_cons (pe_int) (pa_nil)))))) (pa_cons (pe_tup (pa_cons (pe_tup (pa_cons (pv 2) (pa_cons (pv 3) (pa_nil)))) (pa_cons (pv 4) (pa_cons (pe_int) (pa_nil))))) (pa_nil))))))))))
      (pss_cons (ps_set (i := 5) sc_bad.nd rfl (Or.inl rfl) (pe_op op_cat (pv 5) (pe_lst (pa_cons (pe_tup (pa_cons (pe_str) (pa_cons (pv 3) (pa_cons (pv 4) (pa_nil))))) (pa_cons (pe_tup (pa_cons (pe_str) (pa_cons (pv 3) (pa_cons (pv 4) (pa_nil))))) (pa_cons (pe_tup (pa_cons (pe_non) (pa_cons (pv 3) (pa_cons (pv 4) (pa_nil))))) (pa_cons (pe_tup (pa_cons (pe_op op_add_str (pv 2) pe_str) (pa_cons (pv 3) (pa_cons (pv 4) (pa_nil))))) (pa_nil))))))))
      (pss_cons (ps_set (i := 5) sc_bad.nd rfl (Or.inl rfl) (pe_op op_cat (pv 5) (pe_lst (pa_cons (pe_tup (pa_cons (pv 2) (pa_cons (pe_non) (pa_cons (pv 4) (pa_nil))))) (pa_cons (pe_tup (pa_cons (pv 2) (pa_cons (pe_callTy (call_strW (ok_Wheel_str T) (hr.mono (by decide)) (b_Wheel_str T) pass0 W.fnS) (by rfl) T.n_str (by decide +kernel) (pa_cons (pv 3) (pa_nil))) (pa_cons (pv 4) (pa_nil))))) (pa_cons (pe_tup (pa_cons (pv 2) (pa_cons (pv 3) (pa_cons (pe_un un_neg (pe_int)) (pa_nil))))) (pa_cons (pe_tup (pa_cons (pv 2) (pa_cons (pv 3) (pa_cons (pe_op op_add (pe_op op_pow (pe_int) (pe_int)) (pe_int)) (pa_nil))))) (pa_nil))))))))
      (pss_one (ps_ret (pe_call (ok_pick T) (hr.mono (by decide)) rfl T.m_pick T.F_pick.kp (b_pick T) .nil pass0 (pa_cons (pv 0) (pa_cons (pe_op op_cat (pv 5) (pe_lst (pa_cons (pe_tup (pa_cons (pv 2) (pa_cons (pv 3) (pa_cons (pe_non) (pa_nil))))) (pa_cons (pe_tup (pa_cons (pv 2) (pa_cons (pv 3) (pa_cons (pe_bl) (pa_nil))))) (pa_cons (pe_tup (pa_cons (pv 2) (pa_cons (pv 3) (pa_cons (pe_str) (pa_nil))))) (pa_cons (pe_tup (pa_cons (pv 2) (pa_cons (pv 4) (pa_cons (pv 3) (pa_nil))))) (pa_nil))))))) (pa_nil))))))))), ?_⟩
    refine ⟨_, rfl, r, _, rfl, SqT.of hr0, rfl, _, _, rfl, _, _, rfl, _, _, rfl, rfl, ?_⟩
    refine ⟨_, rfl, _, rfl, _, rfl, (by show 3 ≤ sizeLine; decide), fun t1 ht1 => ?_⟩
    have s1 := same_new (o := .lst [.str e.n, .ref y, .int e.pr]) ht1
    have e1 : (upd H0 t1 (.lst [.str e.n, .ref y, .int e.pr])) t1 = some (.lst [.str e.n, .ref y, .int e.pr]) := upd_same
    have q1 : t1 ≠ q := P0.neq ht1
    have P1 := P0.same s1
    have wy1 := wy0.same s1
    generalize upd H0 t1 (.lst [.str e.n, .ref y, .int e.pr]) = H1 at s1 e1 P1 wy1 ⊢
    refine ⟨_, rfl, _, rfl, (by show 2 ≤ sizeLine; decide), fun t2 ht2 => ?_⟩
    have s2 := same_new (o := .tup [.str e.n, .ref y]) ht2
    have e2 : (upd H1 t2 (.tup [.str e.n, .ref y])) t2 = some (.tup [.str e.n, .ref y]) := upd_same
    have q2 : t2 ≠ q := P1.neq ht2
    have P2 := P1.same s2
    have wy2 := wy1.same s2
    generalize upd H1 t2 (.tup [.str e.n, .ref y]) = H2 at s2 e2 P2 wy2 ⊢
    refine ⟨_, rfl, _, rfl, _, rfl, (by show 4 ≤ sizeLine; decide), fun t3 ht3 => ?_⟩
    have s3 := same_new (o := .tup [.str e.n, .ref y, .int e.pr, .int 1]) ht3
    have e3 : (upd H2 t3 (.tup [.str e.n, .ref y, .int e.pr, .int 1])) t3 = some (.tup [.str e.n, .ref y, .int e.pr, .int 1]) := upd_same
    have q3 : t3 ≠ q := P2.neq ht3
    have P3 := P2.same s3
    have wy3 := wy2.same s3
    generalize upd H2 t3 (.tup [.str e.n, .ref y, .int e.pr, .int 1]) = H3 at s3 e3 P3 wy3 ⊢
    refine ⟨_, rfl, _, rfl, (by show 2 ≤ sizeLine; decide), fun t4 ht4 => ?_⟩
    have s4 := same_new (o := .tup [.str e.n, .ref y]) ht4
    have e4 : (upd H3 t4 (.tup [.str e.n, .ref y])) t4 = some (.tup [.str e.n, .ref y]) := upd_same
    have q4 : t4 ≠ q := P3.neq ht4
    have P4 := P3.same s4
    have wy4 := wy3.same s4
    generalize upd H3 t4 (.tup [.str e.n, .ref y]) = H4 at s4 e4 P4 wy4 ⊢
    refine ⟨_, rfl, (by show 3 ≤ sizeLine; decide), fun t5 ht5 => ?_⟩
    have s5 := same_new (o := .tup [.ref t4, .int e.pr, .int 1]) ht5
    have e5 : (upd H4 t5 (.tup [.ref t4, .int e.pr, .int 1])) t5 = some (.tup [.ref t4, .int e.pr, .int 1]) := upd_same
    have q5 : t5 ≠ q := P4.neq ht5
    have P5 := P4.same s5
    have wy5 := wy4.same s5
    generalize upd H4 t5 (.tup [.ref t4, .int e.pr, .int 1]) = H5 at s5 e5 P5 wy5 ⊢
    refine ⟨(by show 7 ≤ sizeLine; decide), fun t6 ht6 => ?_⟩
    have s6 := same_new (o := .lst [.non, .int 3, .str "abc", .ref t1, .ref t2, .ref t3, .ref t5]) ht6
    have e6 : (upd H5 t6 (.lst [.non, .int 3, .str "abc", .ref t1, .ref t2, .ref t3, .ref t5])) t6 = some (.lst [.non, .int 3, .str "abc", .ref t1, .ref t2, .ref t3, .ref t5]) := upd_same
    have q6 : t6 ≠ q := P5.neq ht6
    have P6 := P5.same s6
    have wy6 := wy5.same s6
    generalize upd H5 t6 (.lst [.non, .int 3, .str "abc", .ref t1, .ref t2, .ref t3, .ref t5]) = H6 at s6 e6 P6 wy6 ⊢
    refine ⟨_, rfl, _, rfl, _, rfl, (by show 3 ≤ sizeLine; decide), fun t7 ht7 => ?_⟩
    have s7 := same_new (o := .tup [.str "", .ref y, .int e.pr]) ht7
    have e7 : (upd H6 t7 (.tup [.str "", .ref y, .int e.pr])) t7 = some (.tup [.str "", .ref y, .int e.pr]) := upd_same
    have q7 : t7 ≠ q := P6.neq ht7
    have P7 := P6.same s7
    have wy7 := wy6.same s7
    generalize upd H6 t7 (.tup [.str "", .ref y, .int e.pr]) = H7 at s7 e7 P7 wy7 ⊢
    refine ⟨_, rfl, _, rfl, (by show 3 ≤ sizeLine; decide), fun t8 ht8 => ?_⟩
    have s8 := same_new (o := .tup [.str "A", .ref y, .int e.pr]) ht8
    have e8 : (upd H7 t8 (.tup [.str "A", .ref y, .int e.pr])) t8 = some (.tup [.str "A", .ref y, .int e.pr]) := upd_same
    have q8 : t8 ≠ q := P7.neq ht8
    have P8 := P7.same s8
    have wy8 := wy7.same s8
    generalize upd H7 t8 (.tup [.str "A", .ref y, .int e.pr]) = H8 at s8 e8 P8 wy8 ⊢
    refine ⟨_, rfl, _, rfl, (by show 3 ≤ sizeLine; decide), fun t9 ht9 => ?_⟩
    have s9 := same_new (o := .tup [.non, .ref y, .int e.pr]) ht9
    have e9 : (upd H8 t9 (.tup [.non, .ref y, .int e.pr])) t9 = some (.tup [.non, .ref y, .int e.pr]) := upd_same
    have q9 : t9 ≠ q := P8.neq ht9
    have P9 := P8.same s9
    have wy9 := wy8.same s9
    generalize upd H8 t9 (.tup [.non, .ref y, .int e.pr]) = H9 at s9 e9 P9 wy9 ⊢
    refine ⟨_, rfl, _, _, rfl, rfl, (by have := ln; rw [l8, sizeLine_eq]; omega), _, rfl, _, rfl, (by show 3 ≤ sizeLine; decide), fun t10 ht10 => ?_⟩
    have s10 := same_new (o := .tup [.str (e.n ++ "abcdefgh"), .ref y, .int e.pr]) ht10
    have e10 : (upd H9 t10 (.tup [.str (e.n ++ "abcdefgh"), .ref y, .int e.pr])) t10 = some (.tup [.str (e.n ++ "abcdefgh"), .ref y, .int e.pr]) := upd_same
    have q10 : t10 ≠ q := P9.neq ht10
    have P10 := P9.same s10
    have wy10 := wy9.same s10
    generalize upd H9 t10 (.tup [.str (e.n ++ "abcdefgh"), .ref y, .int e.pr]) = H10 at s10 e10 P10 wy10 ⊢
    refine ⟨(by show 4 ≤ sizeLine; decide), fun t11 ht11 => ?_⟩
    have s11 := same_new (o := .lst [.ref t7, .ref t8, .ref t9, .ref t10]) ht11
    have e11 : (upd H10 t11 (.lst [.ref t7, .ref t8, .ref t9, .ref t10])) t11 = some (.lst [.ref t7, .ref t8, .ref t9, .ref t10]) := upd_same
    have q11 : t11 ≠ q := P10.neq ht11
    have P11 := P10.same s11
    have wy11 := wy10.same s11
    generalize upd H10 t11 (.lst [.ref t7, .ref t8, .ref t9, .ref t10]) = H11 at s11 e11 P11 wy11 ⊢
    refine ⟨t6, t11, _, _, rfl, rfl, s11 _ _ (s10 _ _ (s9 _ _ (s8 _ _ (s7 _ _ (e6))))), e11, (by show 11 ≤ sizeLine; decide), fun t12 ht12 => ?_⟩
    have s12 := same_new (o := .lst ([.non, .int 3, .str "abc", .ref t1, .ref t2, .ref t3, .ref t5] ++ [.ref t7, .ref t8, .ref t9, .ref t10])) ht12
    have e12 : (upd H11 t12 (.lst ([.non, .int 3, .str "abc", .ref t1, .ref t2, .ref t3, .ref t5] ++ [.ref t7, .ref t8, .ref t9, .ref t10]))) t12 = some (.lst ([.non, .int 3, .str "abc", .ref t1, .ref t2, .ref t3, .ref t5] ++ [.ref t7, .ref t8, .ref t9, .ref t10])) := upd_same
    have q12 : t12 ≠ q := P11.neq ht12
    have P12 := P11.same s12
    have wy12 := wy11.same s12
    generalize upd H11 t12 (.lst ([.non, .int 3, .str "abc", .ref t1, .ref t2, .ref t3, .ref t5] ++ [.ref t7, .ref t8, .ref t9, .ref t10])) = H12 at s12 e12 P12 wy12 ⊢
    refine ⟨_, rfl, _, rfl, _, rfl, (by show 3 ≤ sizeLine; decide), fun t13 ht13 => ?_⟩
    have s13 := same_new (o := .tup [.str e.n, .non, .int e.pr]) ht13
    have e13 : (upd H12 t13 (.tup [.str e.n, .non, .int e.pr])) t13 = some (.tup [.str e.n, .non, .int e.pr]) := upd_same
    have q13 : t13 ≠ q := P12.neq ht13
    have P13 := P12.same s13
    have wy13 := wy12.same s13
    generalize upd H12 t13 (.tup [.str e.n, .non, .int e.pr]) = H13 at s13 e13 P13 wy13 ⊢
    refine ⟨_, rfl, _, rfl, tNil_to (str_of wy13 hR.pa ?_)⟩
    refine ⟨_, rfl, (by show 3 ≤ sizeLine; decide), fun t14 ht14 => ?_⟩
    have s14 := same_new (o := .tup [.str e.n, .str (NX.wtext e.tr e.p e.b e.a), .int e.pr]) ht14
    have e14 : (upd H13 t14 (.tup [.str e.n, .str (NX.wtext e.tr e.p e.b e.a), .int e.pr])) t14 = some (.tup [.str e.n, .str (NX.wtext e.tr e.p e.b e.a), .int e.pr]) := upd_same
    have q14 : t14 ≠ q := P13.neq ht14
    have P14 := P13.same s14
    have wy14 := wy13.same s14
    generalize upd H13 t14 (.tup [.str e.n, .str (NX.wtext e.tr e.p e.b e.a), .int e.pr]) = H14 at s14 e14 P14 wy14 ⊢
    refine ⟨_, rfl, _, rfl, _, rfl, (by show 3 ≤ sizeLine; decide), fun t15 ht15 => ?_⟩
    have s15 := same_new (o := .tup [.str e.n, .ref y, .int (-1)]) ht15
    have e15 : (upd H14 t15 (.tup [.str e.n, .ref y, .int (-1)])) t15 = some (.tup [.str e.n, .ref y, .int (-1)]) := upd_same
    have q15 : t15 ≠ q := P14.neq ht15
    have P15 := P14.same s15
    have wy15 := wy14.same s15
    generalize upd H14 t15 (.tup [.str e.n, .ref y, .int (-1)]) = H15 at s15 e15 P15 wy15 ⊢
    refine ⟨_, rfl, _, rfl, _, _, rfl, rfl, hw, _, _, rfl, rfl, (by show 3 ≤ sizeLine; decide), fun t16 ht16 => ?_⟩
    have s16 := same_new (o := .tup [.str e.n, .ref y, .int (10 ^ Int.toNat 12 + 1)]) ht16
    have e16 : (upd H15 t16 (.tup [.str e.n, .ref y, .int (10 ^ Int.toNat 12 + 1)])) t16 = some (.tup [.str e.n, .ref y, .int (10 ^ Int.toNat 12 + 1)]) := upd_same
    have q16 : t16 ≠ q := P15.neq ht16
    have P16 := P15.same s16
    have wy16 := wy15.same s16
    generalize upd H15 t16 (.tup [.str e.n, .ref y, .int (10 ^ Int.toNat 12 + 1)]) = H16 at s16 e16 P16 wy16 ⊢
    refine ⟨(by show 4 ≤ sizeLine; decide), fun t17 ht17 => ?_⟩
    have s17 := same_new (o := .lst [.ref t13, .ref t14, .ref t15, .ref t16]) ht17
    have e17 : (upd H16 t17 (.lst [.ref t13, .ref t14, .ref t15, .ref t16])) t17 = some (.lst [.ref t13, .ref t14, .ref t15, .ref t16]) := upd_same
    have q17 : t17 ≠ q := P16.neq ht17
    have P17 := P16.same s17
    have wy17 := wy16.same s17
    generalize upd H16 t17 (.lst [.ref t13, .ref t14, .ref t15, .ref t16]) = H17 at s17 e17 P17 wy17 ⊢
    refine ⟨t12, t17, _, _, rfl, rfl, s17 _ _ (s16 _ _ (s15 _ _ (s14 _ _ (s13 _ _ (e12))))), e17, (by show 15 ≤ sizeLine; decide), fun t18 ht18 => ?_⟩
    have s18 := same_new (o := .lst (([.non, .int 3, .str "abc", .ref t1, .ref t2, .ref t3, .ref t5] ++ [.ref t7, .ref t8, .ref t9, .ref t10]) ++ [.ref t13, .ref t14, .ref t15, .ref t16])) ht18
    have e18 : (upd H17 t18 (.lst (([.non, .int 3, .str "abc", .ref t1, .ref t2, .ref t3, .ref t5] ++ [.ref t7, .ref t8, .ref t9, .ref t10]) ++ [.ref t13, .ref t14, .ref t15, .ref t16]))) t18 = some (.lst (([.non, .int 3, .str "abc", .ref t1, .ref t2, .ref t3, .ref t5] ++ [.ref t7, .ref t8, .ref t9, .ref t10]) ++ [.ref t13, .ref t14, .ref t15, .ref t16])) := upd_same
    have q18 : t18 ≠ q := P17.neq ht18
    have P18 := P17.same s18
    have wy18 := wy17.same s18
    generalize upd H17 t18 (.lst (([.non, .int 3, .str "abc", .ref t1, .ref t2, .ref t3, .ref t5] ++ [.ref t7, .ref t8, .ref t9, .ref t10]) ++ [.ref t13, .ref t14, .ref t15, .ref t16])) = H18 at s18 e18 P18 wy18 ⊢
    refine ⟨_, rfl, _, rfl, _, rfl, _, rfl, (by show 3 ≤ sizeLine; decide), fun t19 ht19 => ?_⟩
    have s19 := same_new (o := .tup [.str e.n, .ref y, .non]) ht19
    have e19 : (upd H18 t19 (.tup [.str e.n, .ref y, .non])) t19 = some (.tup [.str e.n, .ref y, .non]) := upd_same
    have q19 : t19 ≠ q := P18.neq ht19
    have P19 := P18.same s19
    have wy19 := wy18.same s19
    generalize upd H18 t19 (.tup [.str e.n, .ref y, .non]) = H19 at s19 e19 P19 wy19 ⊢
    refine ⟨_, rfl, _, rfl, (by show 3 ≤ sizeLine; decide), fun t20 ht20 => ?_⟩
    have s20 := same_new (o := .tup [.str e.n, .ref y, .bl true]) ht20
    have e20 : (upd H19 t20 (.tup [.str e.n, .ref y, .bl true])) t20 = some (.tup [.str e.n, .ref y, .bl true]) := upd_same
    have q20 : t20 ≠ q := P19.neq ht20
    have P20 := P19.same s20
    have wy20 := wy19.same s20
    generalize upd H19 t20 (.tup [.str e.n, .ref y, .bl true]) = H20 at s20 e20 P20 wy20 ⊢
    refine ⟨_, rfl, _, rfl, (by show 3 ≤ sizeLine; decide), fun t21 ht21 => ?_⟩
    have s21 := same_new (o := .tup [.str e.n, .ref y, .str "1"]) ht21
    have e21 : (upd H20 t21 (.tup [.str e.n, .ref y, .str "1"])) t21 = some (.tup [.str e.n, .ref y, .str "1"]) := upd_same
    have q21 : t21 ≠ q := P20.neq ht21
    have P21 := P20.same s21
    have wy21 := wy20.same s21
    generalize upd H20 t21 (.tup [.str e.n, .ref y, .str "1"]) = H21 at s21 e21 P21 wy21 ⊢
    refine ⟨_, rfl, _, rfl, _, rfl, (by show 3 ≤ sizeLine; decide), fun t22 ht22 => ?_⟩
    have s22 := same_new (o := .tup [.str e.n, .int e.pr, .ref y]) ht22
    have e22 : (upd H21 t22 (.tup [.str e.n, .int e.pr, .ref y])) t22 = some (.tup [.str e.n, .int e.pr, .ref y]) := upd_same
    have q22 : t22 ≠ q := P21.neq ht22
    have P22 := P21.same s22
    have wy22 := wy21.same s22
    generalize upd H21 t22 (.tup [.str e.n, .int e.pr, .ref y]) = H22 at s22 e22 P22 wy22 ⊢
    refine ⟨(by show 4 ≤ sizeLine; decide), fun t23 ht23 => ?_⟩
    have s23 := same_new (o := .lst [.ref t19, .ref t20, .ref t21, .ref t22]) ht23
    have e23 : (upd H22 t23 (.lst [.ref t19, .ref t20, .ref t21, .ref t22])) t23 = some (.lst [.ref t19, .ref t20, .ref t21, .ref t22]) := upd_same
    have q23 : t23 ≠ q := P22.neq ht23
    have P23 := P22.same s23
    have wy23 := wy22.same s23
    generalize upd H22 t23 (.lst [.ref t19, .ref t20, .ref t21, .ref t22]) = H23 at s23 e23 P23 wy23 ⊢
    refine ⟨t18, t23, _, _, rfl, rfl, s23 _ _ (s22 _ _ (s21 _ _ (s20 _ _ (s19 _ _ (e18))))), e23, (by show 19 ≤ sizeLine; decide), fun t24 ht24 => ?_⟩
    have s24 := same_new (o := .lst ((([.non, .int 3, .str "abc", .ref t1, .ref t2, .ref t3, .ref t5] ++ [.ref t7, .ref t8, .ref t9, .ref t10]) ++ [.ref t13, .ref t14, .ref t15, .ref t16]) ++ [.ref t19, .ref t20, .ref t21, .ref t22])) ht24
    have e24 : (upd H23 t24 (.lst ((([.non, .int 3, .str "abc", .ref t1, .ref t2, .ref t3, .ref t5] ++ [.ref t7, .ref t8, .ref t9, .ref t10]) ++ [.ref t13, .ref t14, .ref t15, .ref t16]) ++ [.ref t19, .ref t20, .ref t21, .ref t22]))) t24 = some (.lst ((([.non, .int 3, .str "abc", .ref t1, .ref t2, .ref t3, .ref t5] ++ [.ref t7, .ref t8, .ref t9, .ref t10]) ++ [.ref t13, .ref t14, .ref t15, .ref t16]) ++ [.ref t19, .ref t20, .ref t21, .ref t22])) := upd_same
    have q24 : t24 ≠ q := P23.neq ht24
    have P24 := P23.same s24
    have wy24 := wy23.same s24
    generalize upd H23 t24 (.lst ((([.non, .int 3, .str "abc", .ref t1, .ref t2, .ref t3, .ref t5] ++ [.ref t7, .ref t8, .ref t9, .ref t10]) ++ [.ref t13, .ref t14, .ref t15, .ref t16]) ++ [.ref t19, .ref t20, .ref t21, .ref t22])) = H24 at s24 e24 P24 wy24 ⊢
    refine ⟨q, t24, _, n, rfl, SqL.of e24, q24, (by show 0 < 19; decide), (by show 19 < 1000000; decide), P24, by omega, fun x H' hx hP' f' => ?_⟩
    have fd := fr_del f'
    have wD := wy24.del P24
    have d1 := fd _ _ ((del_ne q1).trans (s24 _ _ (s23 _ _ (s22 _ _ (s21 _ _ (s20 _ _ (s19 _ _ (s18 _ _ (s17 _ _ (s16 _ _ (s15 _ _ (s14 _ _ (s13 _ _ (s12 _ _ (s11 _ _ (s10 _ _ (s9 _ _ (s8 _ _ (s7 _ _ (s6 _ _ (s5 _ _ (s4 _ _ (s3 _ _ (s2 _ _ (e1)))))))))))))))))))))))))
    have d2 := fd _ _ ((del_ne q2).trans (s24 _ _ (s23 _ _ (s22 _ _ (s21 _ _ (s20 _ _ (s19 _ _ (s18 _ _ (s17 _ _ (s16 _ _ (s15 _ _ (s14 _ _ (s13 _ _ (s12 _ _ (s11 _ _ (s10 _ _ (s9 _ _ (s8 _ _ (s7 _ _ (s6 _ _ (s5 _ _ (s4 _ _ (s3 _ _ (e2))))))))))))))))))))))))
    have d3 := fd _ _ ((del_ne q3).trans (s24 _ _ (s23 _ _ (s22 _ _ (s21 _ _ (s20 _ _ (s19 _ _ (s18 _ _ (s17 _ _ (s16 _ _ (s15 _ _ (s14 _ _ (s13 _ _ (s12 _ _ (s11 _ _ (s10 _ _ (s9 _ _ (s8 _ _ (s7 _ _ (s6 _ _ (s5 _ _ (s4 _ _ (e3)))))))))))))))))))))))
    have d4 := fd _ _ ((del_ne q4).trans (s24 _ _ (s23 _ _ (s22 _ _ (s21 _ _ (s20 _ _ (s19 _ _ (s18 _ _ (s17 _ _ (s16 _ _ (s15 _ _ (s14 _ _ (s13 _ _ (s12 _ _ (s11 _ _ (s10 _ _ (s9 _ _ (s8 _ _ (s7 _ _ (s6 _ _ (s5 _ _ (e4))))))))))))))))))))))
    have d5 := fd _ _ ((del_ne q5).trans (s24 _ _ (s23 _ _ (s22 _ _ (s21 _ _ (s20 _ _ (s19 _ _ (s18 _ _ (s17 _ _ (s16 _ _ (s15 _ _ (s14 _ _ (s13 _ _ (s12 _ _ (s11 _ _ (s10 _ _ (s9 _ _ (s8 _ _ (s7 _ _ (s6 _ _ (e5)))))))))))))))))))))
    have d7 := fd _ _ ((del_ne q7).trans (s24 _ _ (s23 _ _ (s22 _ _ (s21 _ _ (s20 _ _ (s19 _ _ (s18 _ _ (s17 _ _ (s16 _ _ (s15 _ _ (s14 _ _ (s13 _ _ (s12 _ _ (s11 _ _ (s10 _ _ (s9 _ _ (s8 _ _ (e7)))))))))))))))))))
    have d8 := fd _ _ ((del_ne q8).trans (s24 _ _ (s23 _ _ (s22 _ _ (s21 _ _ (s20 _ _ (s19 _ _ (s18 _ _ (s17 _ _ (s16 _ _ (s15 _ _ (s14 _ _ (s13 _ _ (s12 _ _ (s11 _ _ (s10 _ _ (s9 _ _ (e8))))))))))))))))))
    have d9 := fd _ _ ((del_ne q9).trans (s24 _ _ (s23 _ _ (s22 _ _ (s21 _ _ (s20 _ _ (s19 _ _ (s18 _ _ (s17 _ _ (s16 _ _ (s15 _ _ (s14 _ _ (s13 _ _ (s12 _ _ (s11 _ _ (s10 _ _ (e9)))))))))))))))))
    have d10 := fd _ _ ((del_ne q10).trans (s24 _ _ (s23 _ _ (s22 _ _ (s21 _ _ (s20 _ _ (s19 _ _ (s18 _ _ (s17 _ _ (s16 _ _ (s15 _ _ (s14 _ _ (s13 _ _ (s12 _ _ (s11 _ _ (e10))))))))))))))))
    have d13 := fd _ _ ((del_ne q13).trans (s24 _ _ (s23 _ _ (s22 _ _ (s21 _ _ (s20 _ _ (s19 _ _ (s18 _ _ (s17 _ _ (s16 _ _ (s15 _ _ (s14 _ _ (e13)))))))))))))
    have d14 := fd _ _ ((del_ne q14).trans (s24 _ _ (s23 _ _ (s22 _ _ (s21 _ _ (s20 _ _ (s19 _ _ (s18 _ _ (s17 _ _ (s16 _ _ (s15 _ _ (e14))))))))))))
    have d15 := fd _ _ ((del_ne q15).trans (s24 _ _ (s23 _ _ (s22 _ _ (s21 _ _ (s20 _ _ (s19 _ _ (s18 _ _ (s17 _ _ (s16 _ _ (e15)))))))))))
    have d16 := fd _ _ ((del_ne q16).trans (s24 _ _ (s23 _ _ (s22 _ _ (s21 _ _ (s20 _ _ (s19 _ _ (s18 _ _ (s17 _ _ (e16))))))))))
    have d19 := fd _ _ ((del_ne q19).trans (s24 _ _ (s23 _ _ (s22 _ _ (s21 _ _ (s20 _ _ (e19)))))))
    have d20 := fd _ _ ((del_ne q20).trans (s24 _ _ (s23 _ _ (s22 _ _ (s21 _ _ (e20))))))
    have d21 := fd _ _ ((del_ne q21).trans (s24 _ _ (s23 _ _ (s22 _ _ (e21)))))
    have d22 := fd _ _ ((del_ne q22).trans (s24 _ _ (s23 _ _ (e22))))
    have wD := wD.same fd
    refine k x H' ?_ hP' ((same_fr (fun b o hb => s24 _ _ (s23 _ _ (s22 _ _ (s21 _ _ (s20 _ _ (s19 _ _ (s18 _ _ (s17 _ _ (s16 _ _ (s15 _ _ (s14 _ _ (s13 _ _ (s12 _ _ (s11 _ _ (s10 _ _ (s9 _ _ (s8 _ _ (s7 _ _ (s6 _ _ (s5 _ _ (s4 _ _ (s3 _ _ (s2 _ _ (s1 _ _ (hb)))))))))))))))))))))))))).trans f')
    have lA : ∀ {z : Str}, z.length ≤ 100 → ∀ u, V.str z = .str u → u.length ≤ sizeLine := fun h u e2 => by
      cases e2
      rw [sizeLine_eq]
      omega
    simp only [List.mem_append, List.mem_cons, List.not_mem_nil, or_false] at hx
    rcases hx with (((rfl | rfl | rfl | rfl | rfl | rfl | rfl) | (rfl | rfl | rfl | rfl)) | (rfl | rfl | rfl | rfl)) | (rfl | rfl | rfl | rfl)
    · exact .other .non rfl
    · exact .other (.int _) rfl
    · exact .other (.str _) rfl
    · exact .other (.lst d1) rfl
    · exact .len d2 (by show (2 : Nat) ≠ 3; decide)
    · exact .len d3 (by show (4 : Nat) ≠ 3; decide)
    · exact .three d5 (.name (.tup d4) (fun z h => nomatch h) rfl)
    · exact .three d7 (.name (.str _) (lA (by decide)) (by decide +kernel))
    · exact .three d8 (.name (.str _) (lA (by decide)) (by decide +kernel))
    · exact .three d9 (.name .non (fun z h => nomatch h) rfl)
    · refine .three d10 (.name (.str _) (lA (by rw [slen, l8]; omega)) ?_)
      have n1 := (name_len hR.nm).1
      show (decide (1 ≤ ((e.n ++ "abcdefgh" : Str).length : Int) ∧ ((e.n ++ "abcdefgh" : Str).length : Int) ≤ 8) && _) = false
      rw [decide_eq_false (by rw [slen, l8]; omega)]
      rfl
    · exact .three d13 (.wheel hR.nm .non (by simp))
    · exact .three d14 (.wheel hR.nm (.str _) (by simp))
    · exact .three d15 (.price hR.nm wD (.int _) (by decide))
    · exact .three d16 (.price hR.nm wD (.int _) (by decide +kernel))
    · exact .three d19 (.price hR.nm wD .non rfl)
    · exact .three d20 (.price hR.nm wD (.bl _) rfl)
    · exact .three d21 (.price hR.nm wD (.str _) rfl)
    · exact .three d22 (.wheel hR.nm (.int _) (by simp))

theorem fnIn_of {K : PySem.W.Frag} {x qual : Str} {st : Stmt} {f : Addr} {fd : FuncData} (F : Fun K x qual st f fd) : PySem.W.fnIn K f = true := by
  obtain ⟨oc, od, kV, doc, pm, an, cdv, ct, osl, rfl, lk, hcd⟩ := F.ex
  unfold PySem.W.fnIn
  rw [lk]
theorem call_strW2 {X : Cx} {CX : CXT} {k : Nat} {g : Addr} {fd : FuncData} {ps : List Str} {sp : Sp} {E : XK} (K : PySem.W.Frag) (hK : X.K = K) (F : FnOk X.prog X.w X.K X.mg X.base CX k g fd ps sp) (hr : Room (k + 3) X.A) (hb : Binds X.K fd ps []) (hx : Passes CX X E) (hf : PySem.W.isFn X.K (.ref g) = true) : CallR X (.type "str") (rStrW K g sp E) := by
  subst hK
  exact call_strW F hr hb hx hf
theorem same_drop {H : Hp} {it : Addr} {o : HO} (h : H it = Option.none) : Same H (ItX.dropH (upd H it o) it) := fun b ob e => by
  have n := ne_of_none e h
  rw [ItX.dropH_ne n, upd_ne n]
  exact e
/-- at l the list of these rows -/
def StAt (H : Hp) (l : Addr) (st : List Row) : Prop := ∃ rs : List RowT, H l = some (.lst (rs.map fun r => V.ref r.1)) ∧ (∀ r ∈ rs, RowAt H r) ∧ rs.map (·.2) = st
theorem StAt.same {H H' : Hp} (s : Same H H') {l : Addr} {st : List Row} (h : StAt H l st) : StAt H' l st := by
  obtain ⟨rs, h1, h2, h3⟩ := h
  exact ⟨rs, s _ _ h1, fun r hr => s _ _ (h2 r hr), h3⟩
theorem ents_nm {T : Txt K mg} {H : Hp} : ∀ {kvs : List (Key × V)} {es : List Ent}, PySem.Paired (EntAt T H) kvs es → ∀ e ∈ es, nameB (.str e.n) = true
  | _, _, .nil, _, h => absurd h List.not_mem_nil
  | _, _, .cons x t, e, h => by
    rcases List.mem_cons.mp h with rfl | h
    · exact x.nm
    · exact ents_nm t e h
theorem ent_uniq : ∀ {es : List Ent} {e e' : Ent}, (es.map (·.n)).Nodup → e ∈ es → e' ∈ es → e.n = e'.n → e = e'
  | x :: r, e, e', nd, h, h', q => by
    obtain ⟨n1, n2⟩ := List.nodup_cons.mp nd
    rcases List.mem_cons.mp h with rfl | g <;> rcases List.mem_cons.mp h' with rfl | g'
    · rfl
    · exact absurd (show e.n ∈ r.map (·.n) from List.mem_map.mpr ⟨e', g', q.symm⟩) n1
    · exact absurd (show e'.n ∈ r.map (·.n) from List.mem_map.mpr ⟨e, g, q⟩) n1
    · exact ent_uniq n2 g g' q
/-- rows of all names in order are the state -/
theorem state_of {es : List Ent} {ns : List Str} {rs : List RowT} (n2 : ns.Pairwise (fun a b => a.cps.toList < b.cps.toList)) (n3 : ns.Perm (es.map (·.n))) (nd : (es.map (·.n)).Nodup) (h1 : rs.map (fun r => r.2.1) = ns) (h2 : ∀ r ∈ rs, r.2 ∈ es.map Ent.row) : IsSt es (rs.map (·.2)) := by
  constructor
  · rw [← h1] at n2
    have z : List.Pairwise (fun a b : RowT => nkey a.2 < nkey b.2) rs := (List.pairwise_map (f := fun r : RowT => r.2.1) (R := fun a b : Str => a.cps.toList < b.cps.toList)).mp n2
    show List.Pairwise (fun a b : Row => nkey a < nkey b) (rs.map (·.2))
    exact (List.pairwise_map (f := fun r : RowT => r.2) (R := fun a b : Row => nkey a < nkey b)).mpr z
  · intro x
    constructor
    · intro hx
      obtain ⟨r, hr, rfl⟩ := List.mem_map.mp hx
      exact h2 r hr
    · intro hx
      obtain ⟨e, he, rfl⟩ := List.mem_map.mp hx
      have : e.n ∈ rs.map (fun r => r.2.1) := by
        rw [h1]
        exact n3.mem_iff.mpr (List.mem_map.mpr ⟨e, he, rfl⟩)
      obtain ⟨r, hr, e1⟩ := List.mem_map.mp this
      obtain ⟨e', he', e2⟩ := List.mem_map.mp (h2 r hr)
      have e3 : e'.n = e.n := by rw [← e1, ← e2]; rfl
      have e4 := ent_uniq nd he' he e3
      subst e4
      exact List.mem_map.mpr ⟨r, hr, e2.symm⟩
def spState (T : Txt K mg) : Sp := fun vs H Q _ => ∃ (x : Addr) (es : List Ent) (past ahead : List (List Ent)), vs = [.ref x] ∧ ShAt T H x es past ahead ∧ ∀ (l : Addr) (st : List Row) (H' : Hp), Same H H' → H l = Option.none → IsSt es st → StAt H' l st → Q (.ref l) H'
theorem ok_state (HP : PrF lawFile P) (T : Txt K mg) (W : Whl T) : FnOk P w K mg base CX0 6 T.a_state T.fd_state ["_law_shelf"] (spState T) := by
  refine T.F_state.ok sc_state (fun vs H Q E h => ?_) (fun cdv A outer s H vs Q E hr h => ?_)
  · obtain ⟨x, es, past, ahead, rfl, _⟩ := h; rfl
  · obtain ⟨x, es, past, ahead, rfl, hS, k⟩ := h
    obtain ⟨dx, d, t, tp, ta, hx, hI⟩ := hS.fld
    obtain ⟨ns, n1, n2, n3⟩ := hI.nm
    obtain ⟨kvs, d1, d2, d3, d4⟩ := hI.di
    refine ⟨_, pss_one (ps_ret (pe_lc (own := [("_law_name_here", 1)]) (g := gName 1) (tt := tYes) rfl sc_state.nd ((pi_ownT (pv 0) (ok_Shelf_iter T) (hr.mono (by decide)) pass0 T.fi_iter T.fn_iter)) (blkOk_by (own := [("_law_name_here", 1)]) (N := ["_law_shelf", "_law_name_here"]) (sc := defScope s_state) (by decide +kernel)) (fun _ _ _ _ _ => pg_name (i := 1) sc_state.nd rfl (Or.inl rfl)) (fun _ _ _ _ _ => pts_nil) (fun _ _ _ _ _ => pe_tup (pa_cons (pv 1) (pa_cons (pe_callTy (call_strW2 K (by rfl) (ok_Wheel_str T) (hr.mono (by decide)) (b_Wheel_str T) pass0 W.fnS) (by rfl) T.n_str (by decide +kernel) (pa_cons (pe_ix (ix_tup2 K (by rfl)) (pe_ixOK K (by rfl) (ok_Shelf_getitem T) (hr.mono (by decide)) (b_Shelf_getitem T) pass0 T.fi_get (fnIn_of T.F_Shelf_getitem) T.fn_get (pv 0) (pv 1)) (pe_int) (fun _ _ => rfl)) (pa_nil))) (pa_cons (pe_ix (ix_tup2 K (by rfl)) (pe_ixOK K (by rfl) (ok_Shelf_getitem T) (hr.mono (by decide)) (b_Shelf_getitem T) pass0 T.fi_get (fnIn_of T.F_Shelf_getitem) T.fn_get (pv 0) (pv 1)) (pe_int) (fun _ _ => rfl)) (pa_nil))))))), ?_⟩
    refine ⟨_, rfl, x, dx, _, rfl, hx, fun n => ⟨x, dx, t, _, _, _, ns.map V.str, rfl, hx, SqT.of n1, fun it hit hn => ⟨it, t, rfl, hn, upd_same, ?_⟩⟩⟩
    have s0 := same_drop (o := ItTO t it) hit
    generalize ItX.dropH (upd H it (ItTO t it)) it = G at s0 ⊢
    intro D hD
    have hDH : H D = Option.none := none_up s0 hD
    have sD := s0.trans (same_new (o := .lst []) hD)
    refine lc_tup (K := K) (a := t) (xs := ns.map V.str) (fun i H' => Same H H' ∧ ∃ rs : List RowT, H' D = some (.lst (rs.map fun r => V.ref r.1)) ∧ (∀ r ∈ rs, RowAt H' r) ∧ rs.map (fun r => r.2.1) = ns.take i ∧ (∀ r ∈ rs, r.2 ∈ es.map Ent.row))
      ⟨sD, [], upd_same, fun _ h => absurd h List.not_mem_nil, rfl, fun _ h => absurd h List.not_mem_nil⟩ (fun i H' _ h => SqT.of (h.1 _ _ n1)) ?_ ?_
    · rintro i v H' hv ⟨s1, rs, r1, r2, r3, r4⟩
      obtain ⟨nm, hnm, rfl⟩ : ∃ nm, ns[i]? = some nm ∧ v = .str nm := by
        rw [List.getElem?_map] at hv
        cases q : ns[i]? with
        | none => rw [q] at hv; cases hv
        | some nm => rw [q] at hv; exact ⟨nm, rfl, (Option.some.inj hv).symm⟩
      have hmem : nm ∈ ns := List.mem_of_getElem? hnm
      have hE : hasE es nm = true := hasE_iff.mpr (n3.mem_iff.mp hmem)
      obtain ⟨e0, he0, hn0⟩ := List.mem_map.mp (n3.mem_iff.mp hmem)
      have l8 : nm.length ≤ 8 := by
        have := (name_len (ents_nm d2 e0 he0)).2
        rw [hn0] at this
        omega
      have hS' := hS.same s1
      have hx' := s1 _ _ hx
      refine ⟨rfl, ?_⟩
      refine ⟨_, rfl, _, rfl, _, rfl, x, dx, _, rfl, hx', x, nm, es, past, ahead, rfl, hS', l8, hE, fun e tt y he hen htt wy pa pr => ⟨tt, _, 0, _, rfl, rfl, SqT.of htt, rfl, tNil_to (str_of wy pa ?_)⟩⟩
      refine ⟨_, rfl, _, rfl, x, dx, _, rfl, hx', x, nm, es, past, ahead, rfl, hS', l8, hE, fun e2 tt2 y2 he2 hen2 htt2 wy2 pa2 pr2 => ⟨tt2, _, 1, _, rfl, rfl, SqT.of htt2, rfl, (by show 3 ≤ sizeLine; decide), fun tp htp => ?_⟩⟩
      have ee : e2 = e := ent_uniq d3 he2 he (hen2.trans hen.symm)
      subst ee
      have sT := same_new (o := .tup [.str nm, .str (NX.wtext e2.tr e2.p e2.b e2.a), .int e2.pr]) htp
      have nDp : D ≠ tp := ne_of_none r1 htp
      have lr : rs.length = i := by
        have z := congrArg List.length r3
        rw [List.length_map, List.length_take] at z
        have := (List.getElem?_eq_some_iff.mp hnm).1
        omega
      have li : i < 8 := by
        have := (List.getElem?_eq_some_iff.mp hnm).1
        have := n3.length_eq
        rw [List.length_map] at this
        omega
      refine ⟨_, sT _ _ r1, by rw [List.length_map, lr, sizeLine_eq]; omega, fun b o hb => ?_, rs ++ [(tp, nm, NX.wtext e2.tr e2.p e2.b e2.a, e2.pr)], ?_, ?_, ?_, ?_⟩
      · rw [upd_ne (ne_of_none hb hDH)]
        exact sT _ _ (s1 _ _ hb)
      · rw [upd_same, List.map_append]
        rfl
      · intro r hr
        rcases List.mem_append.mp hr with hr | hr
        · show _ = _
          have z := r2 r hr
          have nz : r.1 ≠ D := fun z2 => by
            have z : H' r.1 = _ := z
            rw [z2, r1] at z
            cases z
          rw [upd_ne nz]
          exact sT _ _ z
        · rw [List.mem_singleton] at hr
          subst hr
          show _ = _
          rw [upd_ne (Ne.symm nDp), upd_same]
      · rw [List.map_append, r3, NM.take_snoc hnm]
        rfl
      · intro r hr
        rcases List.mem_append.mp hr with hr | hr
        · exact r4 r hr
        · rw [List.mem_singleton] at hr
          subst hr
          exact List.mem_map.mpr ⟨e2, he2, by rw [← hen]; rfl⟩
    · rintro H' ⟨s1, rs, r1, r2, r3, r4⟩
      rw [List.length_map, List.take_length] at r3
      exact k D (rs.map (·.2)) H' s1 hDH (state_of n2 n3 d3 r3 r4) ⟨rs, r1, r2, rfl⟩

def spWith (T : Txt K mg) : Sp := fun vs H Q _ => ∃ (l r : Addr) (st : List Row) (es : List Ent) (e : Ent), vs = [.ref l, .ref r] ∧ StAt H l st ∧ IsSt es st ∧ es.length ≤ 8 ∧ (es.map (·.n)).Nodup ∧ RowOk T H r e ∧ ∀ (l' : Addr) (st' : List Row) (H' : Hp), Same H H' → H l' = Option.none → IsSt (putE es e) st' → StAt H' l' st' → Q (.ref l') H'
theorem ok_with (HP : PrF lawFile P) (T : Txt K mg) (W : Whl T) : FnOk P w K mg base CX0 6 T.a_with T.fd_with ["_law_state_here", "_law_row_here"] (spWith T) := by
  refine T.F_with.ok sc_with (fun vs H Q E h => ?_) (fun cdv A outer s H vs Q E hr h => ?_)
  · obtain ⟨l, r, st, es, e, rfl, _⟩ := h; rfl
  · obtain ⟨l, r, st, es, e, rfl, ⟨rs, h1, h2, h3⟩, hst, hle, hnd, hR, k⟩ := h
    obtain ⟨y, hr0, wy⟩ := hR.at_
    have lrs : rs.length ≤ 8 := by
      have z := congrArg List.length h3
      rw [List.length_map, hst.len hnd] at z
      omega
    refine ⟨_, pss_one (ps_ret (pe_callB (cr_sortedR hr.units) (by rfl) T.n_sorted (by decide +kernel) (pa_cons (pe_op op_cat (pe_lc (own := [("_law_old", 2)]) (g := gName 2) rfl sc_with.nd (pi_list (pv 0)) (blkOk_by (own := [("_law_old", 2)]) (N := ["_law_state_here", "_law_row_here", "_law_old"]) (sc := defScope s_with) (by decide +kernel)) (fun _ _ _ _ _ => pg_name (i := 2) sc_with.nd rfl (Or.inl rfl)) (fun _ _ _ _ _ => pts_one (pt_cmpR op_ne (pe_ix (ix_tup2 K (by rfl)) (pv 2) (pe_int) (fun _ _ => rfl)) (pe_ix (ix_tup2 K (by rfl)) (pv 1) (pe_int) (fun _ _ => rfl)) (nomark _))) (fun _ _ _ _ _ => pv 2)) (pe_lst (pa_cons (pe_tup (pa_cons (pe_ix ix_tup (pv 1) (pe_int) (fun _ _ => rfl)) (pa_cons (pe_callTy (call_strW (ok_Wheel_str T) (hr.mono (by decide)) (b_Wheel_str T) pass0 W.fnS) (by rfl) T.n_str (by decide +kernel) (pa_cons (pe_ix ix_tup (pv 1) (pe_int) (fun _ _ => rfl)) (pa_nil))) (pa_cons (pe_ix ix_tup (pv 1) (pe_int) (fun _ _ => rfl)) (pa_nil))))) (pa_nil)))) (pa_nil)))), ?_⟩
    refine ⟨_, rfl, l, rfl, ⟨_, SqL.of h1⟩, ?_⟩
    intro D hD
    refine lc_list (K := K) (a := l) (xs := rs.map fun r => V.ref r.1) (fun i H' => Same H H' ∧ H' D = some (.lst (((rs.take i).filter fun r => decide (r.2.1 ≠ e.n)).map fun r => V.ref r.1))) ⟨same_new hD, upd_same⟩ (fun i H' _ h => SqL.of (h.1 _ _ h1)) ?_ ?_
    · rintro i v H' hv ⟨s1, eD⟩
      obtain ⟨ro, hro, rfl⟩ : ∃ ro, rs[i]? = some ro ∧ v = .ref ro.1 := by
        rw [List.getElem?_map] at hv
        cases q : rs[i]? with
        | none => rw [q] at hv; cases hv
        | some ro => rw [q] at hv; exact ⟨ro, rfl, (Option.some.inj hv).symm⟩
      have hra := s1 _ _ (h2 ro (List.mem_of_getElem? hro))
      have hr1 := s1 _ _ hr0
      refine ⟨rfl, ?_⟩
      refine ⟨_, rfl, ro.1, _, 0, _, rfl, rfl, SqT.of hra, rfl, _, rfl, r, _, 0, _, rfl, rfl, SqT.of hr1, rfl, rfl, _, rfl, ?_⟩
      have ht : rs.take (i + 1) = rs.take i ++ [ro] := NM.take_snoc hro
      refine ite2 (fun hc => ?_) (fun hc => ?_)
      · have hne : ro.2.1 ≠ e.n := fun z => by
          rw [z, decide_eq_true rfl] at hc
          cases hc
        have lacc : ((rs.take i).filter fun r => decide (r.2.1 ≠ e.n)).length ≤ 8 := Nat.le_trans (List.length_filter_le _ _) (by rw [List.length_take]; omega)
        refine ⟨_, rfl, _, eD, by rw [List.length_map, sizeLine_eq]; omega, fun b o hb => ?_, ?_⟩
        · rw [upd_ne (ne_of_none hb hD)]
          exact s1 _ _ hb
        · rw [upd_same, ht, List.filter_append, List.map_append, List.filter_cons_of_pos (p := fun r : RowT => decide (r.2.1 ≠ e.n)) (decide_eq_true hne)]
          rfl
      · refine ⟨s1, ?_⟩
        have he : ro.2.1 = e.n := by
          by_cases z : ro.2.1 = e.n
          · exact z
          · exact absurd (by rw [decide_eq_false fun q => z (by injection q)]; rfl) hc
        rw [ht, List.filter_append, List.filter_cons_of_neg (by rw [he]; simp)]
        rw [show ([] : List RowT).filter (fun r => decide (r.2.1 ≠ e.n)) = [] from rfl, List.append_nil]
        exact eD
    · rintro H1 ⟨s1, eD⟩
      rw [List.length_map, List.take_length] at eD
      have hr1 := s1 _ _ hr0
      refine ⟨_, rfl, r, _, 0, _, rfl, rfl, SqT.of hr1, rfl, _, rfl, r, _, 1, _, rfl, rfl, SqT.of hr1, rfl, tNil_to (str_of (wy.same s1) hR.pa ?_)⟩
      refine ⟨_, rfl, r, _, 2, _, rfl, rfl, SqT.of hr1, rfl, (by show 3 ≤ sizeLine; decide), fun tp htp => ?_⟩
      have sT := same_new (o := .tup [.str e.n, .str (NX.wtext e.tr e.p e.b e.a), .int e.pr]) htp
      have eT : (upd H1 tp (.tup [.str e.n, .str (NX.wtext e.tr e.p e.b e.a), .int e.pr])) tp = some (.tup [.str e.n, .str (NX.wtext e.tr e.p e.b e.a), .int e.pr]) := upd_same
      generalize upd H1 tp (.tup [.str e.n, .str (NX.wtext e.tr e.p e.b e.a), .int e.pr]) = H2 at sT eT ⊢
      refine tNil_to ⟨(by show 1 ≤ sizeLine; decide), fun M hM => ?_⟩
      have sM := same_new (o := .lst [.ref tp]) hM
      refine ⟨D, M, _, _, rfl, rfl, sM _ _ (sT _ _ eD), upd_same, ?_, fun N hN => ?_⟩
      · rw [List.length_map, sizeLine_eq]
        have := List.length_filter_le (fun r : RowT => decide (r.2.1 ≠ e.n)) rs
        show _ + 1 ≤ _
        omega
      have sN := same_new (o := .lst (((rs.filter fun r => decide (r.2.1 ≠ e.n)).map fun r => V.ref r.1) ++ [.ref tp])) hN
      have S3 := ((s1.trans sT).trans sM).trans sN
      have hrows : ∀ ro ∈ (rs.filter fun r => decide (r.2.1 ≠ e.n)) ++ [(tp, e.row)], RowAt (upd (upd H2 M (.lst [.ref tp])) N (.lst (((rs.filter fun r => decide (r.2.1 ≠ e.n)).map fun r => V.ref r.1) ++ [.ref tp]))) ro := by
        intro ro hro
        rcases List.mem_append.mp hro with hro | hro
        · exact S3 _ _ (h2 ro (List.mem_filter.mp hro).1)
        · rw [List.mem_singleton] at hro
          subst hro
          exact sN _ _ (sM _ _ eT)
      refine tNil_to ⟨N, (rs.filter fun r => decide (r.2.1 ≠ e.n)) ++ [(tp, e.row)], rfl, SqL.of (by rw [upd_same, List.map_append]; rfl), hrows, fun p hp => ?_⟩
      have sP := same_new (o := .lst ((((rs.filter fun r => decide (r.2.1 ≠ e.n)) ++ [(tp, e.row)]).mergeSort rowLe).map fun r => V.ref r.1)) hp
      refine k p _ _ (S3.trans sP) (none_up S3 hp) (IsSt.with (rs := (rs.filter fun r => decide (r.2.1 ≠ e.n)) ++ [(tp, e.row)]) hst ?_) ⟨_, upd_same, fun ro hro => sP _ _ (hrows ro ((List.mergeSort_perm _ _).mem_iff.mp hro)), rfl⟩
      rw [List.map_append, ← h3, List.filter_map]
      rfl

/-- what is told of the rows: the first that is refused, or none -/
def firstV : Except Nat (List Ent) → V
  | .error i => .int (i : Nat)
  | .ok _ => .non
/-- each row stands as an item, if it is not among the bad ones -/
def GoodAt (T : Txt K mg) (H : Hp) (bs : List Nat) (i : Nat) (v : V) (o : Option Ent) : Prop := (i ∈ bs ∧ o = Option.none) ∨ (i ∉ bs ∧ ∃ r e, v = .ref r ∧ o = some e ∧ RowOk T H r e)
theorem GoodAt.same {T : Txt K mg} {H H' : Hp} (s : Same H H') {bs : List Nat} {i : Nat} {v : V} {o : Option Ent} (h : GoodAt T H bs i v o) : GoodAt T H' bs i v o := by
  rcases h with h | ⟨h1, r, e, h2, h3, h4⟩
  · exact .inl h
  · exact .inr ⟨h1, r, e, h2, h3, h4.same s⟩
theorem inV_nats (n : Nat) : ∀ bs : List Nat, inV (.int (n : Nat)) (bs.map fun b => V.int (b : Nat)) = decide (n ∈ bs)
  | [] => rfl
  | x :: r => by
    show (eqV (.int (x : Nat)) (.int (n : Nat)) || inV (.int (n : Nat)) (r.map fun b => V.int (b : Nat))) = _
    rw [inV_nats n r]
    have e : eqV (.int (x : Nat)) (.int (n : Nat)) = decide (x = n) := by
      show (((x : Nat) : Int) == ((n : Nat) : Int)) = _
      by_cases h : x = n
      · rw [decide_eq_true h, h]; exact beq_self_eq_true _
      · rw [decide_eq_false h]; exact beq_eq_false_iff_ne.mpr fun z => h (by omega)
    rw [e]
    by_cases h : x = n <;> by_cases h2 : n ∈ r <;> simp [h, h2, Ne.symm, eq_comm]
theorem flat_nats : ∀ bs : List Nat, (bs.map fun b => V.int (b : Nat)).all flatV = true
  | [] => rfl
  | _ :: r => by rw [List.map_cons, List.all_cons, flat_nats r]; rfl
theorem hasE_put (es : List Ent) (e : Ent) (n : Str) : hasE (putE es e) n = true ↔ hasE es n = true ∨ n = e.n := by
  rw [hasE_iff, putE_names]
  split
  · rename_i q
    rw [hasE_iff]
    exact ⟨.inl, fun h => h.elim id fun z => by rw [z]; exact hasE_iff.mp q⟩
  · rw [List.mem_append, List.mem_singleton, hasE_iff]
def spFirst (T : Txt K mg) : Sp := fun vs H Q _ => ∃ (l lr lb : Addr) (st : List Row) (es : List Ent) (rows : List V) (os : List (Option Ent)) (bs : List Nat), vs = [.ref l, .ref lr, .ref lb] ∧ StAt H l st ∧ IsSt es st ∧ es.length ≤ 8 ∧ (es.map (·.n)).Nodup ∧ SqL K H lr rows ∧ rows.length = os.length ∧ rows.length ≤ 10 ∧ SqL K H lb (bs.map fun b => V.int (b : Nat)) ∧
  (∀ i v o, rows[i]? = some v → os[i]? = some o → GoodAt T H bs i v o) ∧ ∀ H', Same H H' → Q (firstV (runR 0 es os)) H'
theorem ok_first_bad (T : Txt K mg) : FnOk P w K mg base CX0 1 T.a_first_bad T.fd_first_bad ["_law_state_here", "_law_rows", "_law_bad_here"] (spFirst T) := by
  refine T.F_first_bad.ok sc_first_bad (fun vs H Q E h => ?_) (fun cdv A outer s H vs Q E hr h => ?_)
  · obtain ⟨l, lr, lb, st, es, rows, os, bs, rfl, _⟩ := h; rfl
  · obtain ⟨l, lr, lb, st, es, rows, os, bs, rfl, ⟨rs, h1, h2, h3⟩, hst, hle, hnd, hrows, hlen, h10, hbs, hgood, k⟩ := h
    have lrs : rs.length = es.length := by
      have z := congrArg List.length h3
      rw [List.length_map, hst.len hnd] at z
      exact z
    refine ⟨_, pss_cons (ps_setLc (i := 3) (own := [("_law_row_here", 4)]) (g := gName 4) (tt := tYes) rfl sc_first_bad.nd rfl rfl (sw_true rfl rfl rfl (by decide +kernel)) (pi_list (pv 0)) (blkOk_by (own := [("_law_row_here", 4)]) (N := ["_law_state_here", "_law_rows", "_law_bad_here", "_law_names", "_law_row_here", "_law_at"]) (sc := defScope s_first_bad) (by decide +kernel)) (fun _ _ _ _ _ => pg_name (i := 4) sc_first_bad.nd rfl (Or.inl rfl)) (fun _ _ _ _ _ => pts_nil) (fun _ _ _ _ _ => pe_ix (ix_tup2 K (by rfl)) (pv 4) (pe_int) (fun _ _ => rfl)))
      (pss_cons (ps_for PassesOwn.never rfl (pi_enum (by rfl) T.n_enumerate (pa_cons (pv 1) pa_nil)) (pg_tup rfl (pgs_cons (pg_name (i := 5) sc_first_bad.nd rfl (Or.inl rfl)) (pgs_cons (pg_name (i := 4) sc_first_bad.nd rfl (Or.inl rfl)) (pgs_nil)))) (pss_cons (ps_if (pt_cmpR op_in_seq (pv 5) (pv 2) rfl) (pss_one (ps_ret (pv 5))) (pss_nil))
      (pss_one (ps_if (pt_cmpR op_notIn_seq (pe_ix ix_tup (pv 4) (pe_int) (fun _ _ => rfl)) (pv 3) rfl) (pss_cons (ps_if (pt_cmpR op_eq (pe_callB call_len_seq (by rfl) T.n_len (by decide +kernel) (pa_cons (pv 3) (pa_nil))) (pe_int) (nomark _)) (pss_one (ps_ret (pv 5))) (pss_nil))
      (pss_one (ps_expr (pe_bm PySem.F.plainAttrs_list PySem.F.slot_list_append PySem.F.type_list_append mt_append (pv 3) (pa_cons (pe_ix ix_tup (pv 4) (pe_int) (fun _ _ => rfl)) (pa_nil)))))) (pss_nil)))))
      (pss_one (ps_ret (pe_non)))), ?_⟩
    refine ⟨_, rfl, l, rfl, ⟨_, SqL.of h1⟩, ?_⟩
    intro D hD
    refine lc_list (K := K) (a := l) (xs := rs.map fun r => V.ref r.1) (fun i H' => Same H H' ∧ H' D = some (.lst (((rs.take i).map fun r => r.2.1).map V.str))) ⟨same_new hD, upd_same⟩ (fun i H' _ h => SqL.of (h.1 _ _ h1)) ?_ ?_
    · rintro i v H' hv ⟨s1, eD⟩
      obtain ⟨ro, hro, rfl⟩ : ∃ ro, rs[i]? = some ro ∧ v = .ref ro.1 := by
        rw [List.getElem?_map] at hv
        cases q : rs[i]? with
        | none => rw [q] at hv; cases hv
        | some ro => rw [q] at hv; exact ⟨ro, rfl, (Option.some.inj hv).symm⟩
      have hra := s1 _ _ (h2 ro (List.mem_of_getElem? hro))
      refine ⟨rfl, ?_⟩
      refine ⟨_, rfl, ro.1, _, 0, _, rfl, rfl, SqT.of hra, rfl, _, eD, by rw [List.length_map, List.length_map, List.length_take, sizeLine_eq]; omega, fun b o hb => ?_, ?_⟩
      · rw [upd_ne (ne_of_none hb hD)]
        exact s1 _ _ hb
      · rw [upd_same, NM.take_snoc hro, List.map_append, List.map_append]
        rfl
    · rintro H1 ⟨s1, eD⟩
      rw [List.length_map, List.take_length] at eD
      have hDH := hD
      have hst2 : rs.map (fun r => r.2.1) = st.map (·.1) := by rw [← h3, List.map_map]; rfl
      refine ⟨_, rfl, lr, rows, rfl, SqL.same s1 hrows, ?_⟩
      refine for_it walk_enum (fun i σ G => ∃ (x4 x5 : Option V) (ei : List Ent) (nl : List Str), σ = [some (.ref l), some (.ref lr), some (.ref lb), some (.ref D), x4, x5] ∧ Same H G ∧ G D = some (.lst (nl.map V.str)) ∧ (∀ n, n ∈ nl ↔ hasE ei n = true) ∧ nl.length = ei.length ∧ ei.length ≤ 8 ∧ runR 0 es os = runR i ei (os.drop i))
        ⟨_, _, es, rs.map (fun r => r.2.1), rfl, s1, eD, fun n => by rw [hst2]; exact hst.names n, by rw [List.length_map]; exact lrs, hle, rfl⟩ (fun i σ G _ z => by
          obtain ⟨_, _, _, _, _, sG, _⟩ := z
          exact SqL.same sG hrows) ?_ ?_
      · rintro i x σ G G2 hi ⟨x4, x5, ei, nl, rfl, sG, hDl, hnl, hln, hl8, hrun⟩ ⟨tz, u1, u2, rfl, htz, rfl, e1, e2⟩
        cases e1
        dsimp only at e2
        have sz := same_new (o := .tup [V.int (i : Nat), u2]) htz
        have sG2 := sG.trans sz
        have hDl2 := sz _ _ hDl
        refine ⟨tz, _, rfl, SqT.of upd_same, rfl, _, _, rfl, _, _, rfl, rfl, ?_⟩
        generalize upd G tz (.tup [V.int (i : Nat), u2]) = G3 at sz sG2 hDl2 ⊢
        obtain ⟨o, ho⟩ : ∃ o, os[i]? = some o := ⟨os[i]'(by omega), List.getElem?_eq_getElem _⟩
        have hg := hgood i u2 o e2 ho
        have hdr : os.drop i = o :: os.drop (i + 1) := by
          have hlt : i < os.length := by omega
          rw [List.drop_eq_getElem_cons hlt]
          rw [List.getElem?_eq_getElem hlt] at ho
          rw [Option.some.inj ho]
        rw [hdr] at hrun
        refine ⟨_, rfl, _, rfl, lb, _, rfl, .inl (SqL.same sG2 hbs), rfl, flat_nats bs, _, rfl, ?_⟩
        rw [inV_nats]
        refine ite2 (fun hc => ?_) (fun hc => ?_)
        · have hc := of_decide_eq_true hc
          have ho2 : o = Option.none := by
            rcases hg with ⟨_, h⟩ | ⟨h, _⟩
            · exact h
            · exact absurd hc h
          subst ho2
          refine ⟨_, rfl, ?_⟩
          have kk := k _ sG2
          rw [hrun] at kk
          exact kk
        · have hc : i ∉ bs := fun z => hc (decide_eq_true z)
          rcases hg with ⟨h, _⟩ | ⟨_, r, e, rfl, rfl, hR⟩
          · exact absurd h hc
          obtain ⟨y, hr0, wy⟩ := hR.at_
          have hr3 := sG2 _ _ hr0
          refine ⟨_, rfl, r, _, 0, _, rfl, rfl, SqT.of hr3, rfl, _, rfl, D, _, rfl, .inl (SqL.of hDl2), rfl, flat_strs nl, _, rfl, ?_⟩
          show (if (!inV (.str e.n) (nl.map V.str)) = true then _ else _)
          rw [inV_strs]
          have hdec : decide (e.n ∈ nl) = hasE ei e.n := by
            cases q : hasE ei e.n with
            | true => exact decide_eq_true ((hnl _).mpr q)
            | false => exact decide_eq_false fun z => by rw [(hnl _).mp z] at q; cases q
          rw [hdec]
          cases q : hasE ei e.n with
          | true =>
            have hf : fullE ei e = false := by unfold fullE; rw [q]; rfl
            refine iteF ⟨_, _, putE ei e, nl, rfl, sG2, hDl2, fun n => ?_, by rw [putE_len, if_pos q]; exact hln, by rw [putE_len, if_pos q]; exact hl8, hrun.trans ?_⟩
            · rw [hasE_put, hnl]
              exact ⟨.inl, fun h => h.elim id fun z => by rw [z]; exact q⟩
            · show (if fullE ei e = true then Except.error i else runR (i + 1) (putE ei e) _) = _
              rw [if_neg (by rw [hf]; exact Bool.false_ne_true)]
          | false =>
            refine iteT ?_
            refine ⟨_, rfl, D, _, rfl, .inl (SqL.of hDl2), rfl, _, rfl, ?_⟩
            rw [List.length_map]
            refine ite2 (fun h8 => ?_) (fun h8 => ?_)
            · have h8 := of_decide_eq_true h8
              have hf : fullE ei e = true := by
                unfold fullE
                rw [q]
                refine (Bool.true_and _).trans (decide_eq_true ?_)
                injection h8 with h8
                omega
              refine ⟨_, rfl, ?_⟩
              have kk := k _ sG2
              rw [hrun] at kk
              have er : runR i ei (some e :: os.drop (i + 1)) = .error i := by
                show (if fullE ei e = true then Except.error i else _) = _
                rw [if_pos hf]
              rw [er] at kk
              exact kk
            · have hf : fullE ei e = false := by
                unfold fullE
                rw [q]
                refine (Bool.true_and _).trans (decide_eq_false fun z => h8 (decide_eq_true ?_))
                rw [hln, z]
                rfl
              have l8 : ei.length ≠ 8 := fun z => by
                unfold fullE at hf
                rw [q, decide_eq_true z] at hf
                cases hf
              refine ⟨_, rfl, .inl ⟨rfl, _, SqL.of hDl2⟩, _, rfl, r, _, 0, _, rfl, rfl, SqT.of hr3, rfl, D, _, _, rfl, rfl, hDl2, by rw [List.length_map, sizeLine_eq]; omega, ?_⟩
              refine ⟨_, _, putE ei e, nl ++ [e.n], rfl, fun b o hb => ?_, by rw [upd_same, List.map_append]; rfl, fun n => ?_, ?_, ?_, hrun.trans ?_⟩
              · rw [upd_ne (ne_of_none hb hD)]
                exact sG2 _ _ hb
              · rw [hasE_put, List.mem_append, List.mem_singleton, hnl]
              · rw [putE_len, if_neg (by rw [q]; exact Bool.false_ne_true), List.length_append, hln]
                rfl
              · rw [putE_len, if_neg (by rw [q]; exact Bool.false_ne_true)]
                omega
              · show (if fullE ei e = true then Except.error i else runR (i + 1) (putE ei e) _) = _
                rw [if_neg (by rw [hf]; exact Bool.false_ne_true)]
      · rintro σ G ⟨x4, x5, ei, nl, rfl, sG, hDl, hnl, hln, hl8, hrun⟩
        rw [List.drop_eq_nil_of_le (by omega)] at hrun
        have kk := k _ sG
        rw [hrun] at kk
        exact kk

section
variable {X : Cx} {CX : CXT} {k : Nat} {g : Addr} {sp : Sp} {E : XK} {o : Expr} {m : Str} {ta : TE} {pos apos : Pos}
/-- o.m(), m told of its arguments as they are passed -/
theorem pe_methR0 {C : Addr} {pl : Sem Bool} (he : PE X o ta) (c : Cls X.K C) (hm : Meth X.K C m g) (F : FnR X.prog X.w X.K X.mg X.base CX k g sp) (hr : Room k X.A) (hx : Passes CX X E)
    (ht : eval (.Call (.Attribute o m apos) [] [] pos) X.env = (do
      let ov ← eval o X.env
      standAt apos.atName
      let (f, first) ← holding [ov] (getMethod ov m pl)
      callWith pos f first (backTo pos (starEach [] X.env)) (backToKw pos (keywordEach [] X.env))) := by rfl) :
    PE X (.Call (.Attribute o m apos) [] [] pos) (tMethR C m sp E ta tNil) := by
  refine ⟨fun pins s σ H Q I h => ?_⟩
  refine PySem.W.methodCall_KW (pl := pl) (thn (he.run pins s σ H _ I h) fun u s1 ⟨x, H1, I1, rx, a, dx, fs, ex, ea, l, q⟩ => ?_) ht
  subst ex
  obtain rfl : u = Value.ref a := rx
  refine getmeth_ok I1 ea c hm l ?_
  exact PySem.W.callWith_K0 (first := [.ref a]) I1.kIn hm.kp (wpAny_call (run_fnR (us := [.ref a]) (vs := [.ref a]) F hr hx I1 (.cons rfl .nil) q))
end
def spLawStock (T : Txt K mg) : Sp := fun vs H Q E => ∃ (x lr : Addr) (es : List Ent) (past ahead : List (List Ent)) (os : List (Option Ent)) (rows : List V), vs = [.ref x, .ref lr] ∧ ShAt T H x es past ahead ∧ past.length < 1000 ∧ SqL K H lr rows ∧ rows.length ≤ 5 ∧ PySem.Paired (RowV T H) rows os ∧
  (∀ i, runR 0 es os = .error i → ErrD T H E i) ∧ (∀ es', runR 0 es os = .ok es' → ∀ H', But x H H' → ShAt T H' x es' (past ++ [es]) [] → Q .non H')
theorem ok_stock (HP : PrF lawFile P) (T : Txt K mg) (W : Whl T) (B : Caught T) : FnOk P w K mg base (L2.CX P w) 7 T.a_stock T.fd_stock ["_law_shelf", "_law_rows"] (spLawStock T) := by
  refine T.F_stock.okX sc_stock (fun vs H Q E h => ?_) (fun cdv A outer s H vs Q E hr h => ?_)
  · obtain ⟨x, lr, es, past, ahead, os, rows, rfl, _⟩ := h; rfl
  · obtain ⟨x, lr, es, past, ahead, os, rows, rfl, hS, hpl, hrows, h5, hR, k1, k2⟩ := h
    obtain ⟨dx, d, t, tp, ta, hx, _⟩ := hS.fld
    refine ⟨_, pss_cons (ps_if (pt_cmpR op_eq (pe_callB call_len_seq (by rfl) T.n_len (by decide +kernel) (pa_cons (pv 1) (pa_nil))) (pe_int) (nomark _)) (pss_one (ps_ret (pe_methR0 (pv 0) T.scls T.s_stock (ok_Shelf_stock HP T W B) (hr.mono (by decide)) (passes_call (takes_of rfl rfl rfl rfl) (fun _ _ _ _ h => h))))) (pss_nil))
      (pss_cons (ps_if (pt_cmpR op_eq (pe_callB call_len_seq (by rfl) T.n_len (by decide +kernel) (pa_cons (pv 1) (pa_nil))) (pe_int) (nomark _)) (pss_one (ps_ret (pe_methR (pv 0) T.scls T.s_stock (ok_Shelf_stock HP T W B) (hr.mono (by decide)) (passes_call (takes_of rfl rfl rfl rfl) (fun _ _ _ _ h => h)) (pa_cons (pe_ix ix_list (pv 1) (pe_int) (fun _ _ => rfl)) (pa_nil))))) (pss_nil))
      (pss_cons (ps_if (pt_cmpR op_eq (pe_callB call_len_seq (by rfl) T.n_len (by decide +kernel) (pa_cons (pv 1) (pa_nil))) (pe_int) (nomark _)) (pss_one (ps_ret (pe_methR (pv 0) T.scls T.s_stock (ok_Shelf_stock HP T W B) (hr.mono (by decide)) (passes_call (takes_of rfl rfl rfl rfl) (fun _ _ _ _ h => h)) (pa_cons (pe_ix ix_list (pv 1) (pe_int) (fun _ _ => rfl)) (pa_cons (pe_ix ix_list (pv 1) (pe_int) (fun _ _ => rfl)) (pa_nil)))))) (pss_nil))
      (pss_cons (ps_if (pt_cmpR op_eq (pe_callB call_len_seq (by rfl) T.n_len (by decide +kernel) (pa_cons (pv 1) (pa_nil))) (pe_int) (nomark _)) (pss_one (ps_ret (pe_methR (pv 0) T.scls T.s_stock (ok_Shelf_stock HP T W B) (hr.mono (by decide)) (passes_call (takes_of rfl rfl rfl rfl) (fun _ _ _ _ h => h)) (pa_cons (pe_ix ix_list (pv 1) (pe_int) (fun _ _ => rfl)) (pa_cons (pe_ix ix_list (pv 1) (pe_int) (fun _ _ => rfl)) (pa_cons (pe_ix ix_list (pv 1) (pe_int) (fun _ _ => rfl)) (pa_nil))))))) (pss_nil))
      (pss_cons (ps_if (pt_cmpR op_eq (pe_callB call_len_seq (by rfl) T.n_len (by decide +kernel) (pa_cons (pv 1) (pa_nil))) (pe_int) (nomark _)) (pss_one (ps_ret (pe_methR (pv 0) T.scls T.s_stock (ok_Shelf_stock HP T W B) (hr.mono (by decide)) (passes_call (takes_of rfl rfl rfl rfl) (fun _ _ _ _ h => h)) (pa_cons (pe_ix ix_list (pv 1) (pe_int) (fun _ _ => rfl)) (pa_cons (pe_ix ix_list (pv 1) (pe_int) (fun _ _ => rfl)) (pa_cons (pe_ix ix_list (pv 1) (pe_int) (fun _ _ => rfl)) (pa_cons (pe_ix ix_list (pv 1) (pe_int) (fun _ _ => rfl)) (pa_nil)))))))) (pss_nil))
      (pss_one (ps_ret (pe_methR (pv 0) T.scls T.s_stock (ok_Shelf_stock HP T W B) (hr.mono (by decide)) (passes_call (takes_of rfl rfl rfl rfl) (fun _ _ _ _ h => h)) (pa_cons (pe_ix ix_list (pv 1) (pe_int) (fun _ _ => rfl)) (pa_cons (pe_ix ix_list (pv 1) (pe_int) (fun _ _ => rfl)) (pa_cons (pe_ix ix_list (pv 1) (pe_int) (fun _ _ => rfl)) (pa_cons (pe_ix ix_list (pv 1) (pe_int) (fun _ _ => rfl)) (pa_cons (pe_ix ix_list (pv 1) (pe_int) (fun _ _ => rfl)) (pa_nil))))))))))))), ?_⟩
    have ne : ∀ {a b : Nat}, a ≠ b → decide (V.int (a : Nat) = V.int (b : Nat)) = false := fun h => decide_eq_false fun z => h (by injection z with z; omega)
    cases rows with
    | nil =>
      refine ⟨_, rfl, lr, _, rfl, .inl hrows, rfl, _, rfl, ?_⟩
      refine if_true_of (decide_eq_true rfl) ?_
      exact ⟨_, rfl, x, dx, _, rfl, hx, rfl, _, _, rfl, (by show 0 ≤ sizeLine; decide), x, es, past, ahead, os, rfl, hS, hpl, hR, k1, k2⟩
    | cons a rows =>
      cases rows with
      | nil =>
        refine ⟨_, rfl, lr, _, rfl, .inl hrows, rfl, _, rfl, ?_⟩
        refine if_false_of (ne (a := 1) (b := 0) (by decide)) ?_
        refine ⟨_, rfl, lr, _, rfl, .inl hrows, rfl, _, rfl, ?_⟩
        refine if_true_of (decide_eq_true rfl) ?_
        exact ⟨_, rfl, x, dx, _, rfl, hx, rfl, _, rfl, lr, _, 0, _, rfl, rfl, hrows, rfl, _, _, rfl, (by show 1 ≤ sizeLine; decide), x, es, past, ahead, os, rfl, hS, hpl, hR, k1, k2⟩
      | cons b rows =>
        cases rows with
        | nil =>
          refine ⟨_, rfl, lr, _, rfl, .inl hrows, rfl, _, rfl, ?_⟩
          refine if_false_of (ne (a := 2) (b := 0) (by decide)) ?_
          refine ⟨_, rfl, lr, _, rfl, .inl hrows, rfl, _, rfl, ?_⟩
          refine if_false_of (ne (a := 2) (b := 1) (by decide)) ?_
          refine ⟨_, rfl, lr, _, rfl, .inl hrows, rfl, _, rfl, ?_⟩
          refine if_true_of (decide_eq_true rfl) ?_
          exact ⟨_, rfl, x, dx, _, rfl, hx, rfl, _, rfl, lr, _, 0, _, rfl, rfl, hrows, rfl, _, rfl, lr, _, 1, _, rfl, rfl, hrows, rfl, _, _, rfl, (by show 2 ≤ sizeLine; decide), x, es, past, ahead, os, rfl, hS, hpl, hR, k1, k2⟩
        | cons c rows =>
          cases rows with
          | nil =>
            refine ⟨_, rfl, lr, _, rfl, .inl hrows, rfl, _, rfl, ?_⟩
            refine if_false_of (ne (a := 3) (b := 0) (by decide)) ?_
            refine ⟨_, rfl, lr, _, rfl, .inl hrows, rfl, _, rfl, ?_⟩
            refine if_false_of (ne (a := 3) (b := 1) (by decide)) ?_
            refine ⟨_, rfl, lr, _, rfl, .inl hrows, rfl, _, rfl, ?_⟩
            refine if_false_of (ne (a := 3) (b := 2) (by decide)) ?_
            refine ⟨_, rfl, lr, _, rfl, .inl hrows, rfl, _, rfl, ?_⟩
            refine if_true_of (decide_eq_true rfl) ?_
            exact ⟨_, rfl, x, dx, _, rfl, hx, rfl, _, rfl, lr, _, 0, _, rfl, rfl, hrows, rfl, _, rfl, lr, _, 1, _, rfl, rfl, hrows, rfl, _, rfl, lr, _, 2, _, rfl, rfl, hrows, rfl, _, _, rfl, (by show 3 ≤ sizeLine; decide), x, es, past, ahead, os, rfl, hS, hpl, hR, k1, k2⟩
          | cons d rows =>
            cases rows with
            | nil =>
              refine ⟨_, rfl, lr, _, rfl, .inl hrows, rfl, _, rfl, ?_⟩
              refine if_false_of (ne (a := 4) (b := 0) (by decide)) ?_
              refine ⟨_, rfl, lr, _, rfl, .inl hrows, rfl, _, rfl, ?_⟩
              refine if_false_of (ne (a := 4) (b := 1) (by decide)) ?_
              refine ⟨_, rfl, lr, _, rfl, .inl hrows, rfl, _, rfl, ?_⟩
              refine if_false_of (ne (a := 4) (b := 2) (by decide)) ?_
              refine ⟨_, rfl, lr, _, rfl, .inl hrows, rfl, _, rfl, ?_⟩
              refine if_false_of (ne (a := 4) (b := 3) (by decide)) ?_
              refine ⟨_, rfl, lr, _, rfl, .inl hrows, rfl, _, rfl, ?_⟩
              refine if_true_of (decide_eq_true rfl) ?_
              exact ⟨_, rfl, x, dx, _, rfl, hx, rfl, _, rfl, lr, _, 0, _, rfl, rfl, hrows, rfl, _, rfl, lr, _, 1, _, rfl, rfl, hrows, rfl, _, rfl, lr, _, 2, _, rfl, rfl, hrows, rfl, _, rfl, lr, _, 3, _, rfl, rfl, hrows, rfl, _, _, rfl, (by show 4 ≤ sizeLine; decide), x, es, past, ahead, os, rfl, hS, hpl, hR, k1, k2⟩
            | cons e rows =>
              cases rows with
              | cons z1 rows => exact absurd h5 (by simp)
              | nil =>
                refine ⟨_, rfl, lr, _, rfl, .inl hrows, rfl, _, rfl, ?_⟩
                refine if_false_of (ne (a := 5) (b := 0) (by decide)) ?_
                refine ⟨_, rfl, lr, _, rfl, .inl hrows, rfl, _, rfl, ?_⟩
                refine if_false_of (ne (a := 5) (b := 1) (by decide)) ?_
                refine ⟨_, rfl, lr, _, rfl, .inl hrows, rfl, _, rfl, ?_⟩
                refine if_false_of (ne (a := 5) (b := 2) (by decide)) ?_
                refine ⟨_, rfl, lr, _, rfl, .inl hrows, rfl, _, rfl, ?_⟩
                refine if_false_of (ne (a := 5) (b := 3) (by decide)) ?_
                refine ⟨_, rfl, lr, _, rfl, .inl hrows, rfl, _, rfl, ?_⟩
                refine if_false_of (ne (a := 5) (b := 4) (by decide)) ?_
                exact ⟨_, rfl, x, dx, _, rfl, hx, rfl, _, rfl, lr, _, 0, _, rfl, rfl, hrows, rfl, _, rfl, lr, _, 1, _, rfl, rfl, hrows, rfl, _, rfl, lr, _, 2, _, rfl, rfl, hrows, rfl, _, rfl, lr, _, 3, _, rfl, rfl, hrows, rfl, _, rfl, lr, _, 4, _, rfl, rfl, hrows, rfl, _, _, rfl, (by show 5 ≤ sizeLine; decide), x, es, past, ahead, os, rfl, hS, hpl, hR, k1, k2⟩

section
variable {X : Cx}
/-- != of data, or of two lists of two lengths, whatever they hold -/
def rNeL (K : PySem.W.Frag) : R2 := fun x y H Q => rNeD K x y H Q ∨ ∃ a b xs ys, x = .ref a ∧ y = .ref b ∧ SqL K H a xs ∧ SqL K H b ys ∧ xs.length ≠ ys.length ∧ Q (.bl true) H
theorem op_neL (hu : X.A.units + 64 < cLine) : OpR X (compareOp .NotEq) (rNeL X.K) := by
  intro pins s σ H x y v u Q I rx ry h
  rcases h with h | ⟨a, b, xs, ys, rfl, rfl, ha, hb, hn, q⟩
  · exact op_neD hu pins s σ H x y v u Q I rx ry h
  · cases rx
    cases ry
    obtain ⟨i1, r1, ⟨o, n, ho, hc, _, hd⟩, _⟩ := I.list ha
    obtain ⟨i2, r2, ⟨o2, n2, ho2, hc2, _, hd2⟩, _⟩ := I.list hb
    have l1 := r1.length
    have l2 := r2.length
    refine (SeqAt.RcNeAt.lists_lengths (items := i1.toArray) (items2 := i2.toArray) ⟨o, ho, hc, n, hd⟩ ⟨o2, ho2, hc2, n2, hd2⟩ ?_ (by omega)) _ _ _ _ ⟨.bl true, H, I, rfl, q⟩
    rw [bne_iff_ne, List.size_toArray, List.size_toArray]
    omega
theorem call_isP2 (K : PySem.W.Frag) (hK : X.K = K) {a : Addr} {oe : Obj} {cls : Value} {dd : Option Addr} (hp : (a, oe) ∈ X.pn) (hz : Zc cls dd oe) (hf : ∃ vs, oe.data = .fields vs) : CallR X (.builtin "isinstance") (rIsP K a cls dd) := by
  subst hK
  exact call_isP (p := (a, oe)) hp hz hf
theorem pe_fldP2 (K : PySem.W.Frag) (hK : X.K = K) {a : Addr} {oe : Obj} {cls : Value} {dd : Option Addr} {e : Expr} {te : TE} {f : Str} {pos : Pos} (hp : (a, oe) ∈ X.pn) (hz : Zc cls dd oe) (hf : ∃ vs, oe.data = .fields vs) (he : PE X e te) (hb : attributeBase e f X.env (eval e X.env) = eval e X.env := by rfl) : PE X (.Attribute e f pos) (tFldP K a cls dd f te) := by
  subst hK
  exact pe_fldP (p := (a, oe)) hp hz hf he hb
end
/-! ### neither the pen nor the shelf -/
def nb (q x : Addr) (H : Hp) : Hp := del (del H q) x
section
variable {q x : Addr} {H H' : Hp}
theorem nb_sub : Same (nb q x H) H := (del_sub (H := del H q)).trans del_sub
theorem nb_at {b : Addr} {o : HO} (h : H b = some o) (n1 : b ≠ q) (n2 : b ≠ x) : nb q x H b = some o := by
  unfold nb
  rw [del_ne n2, del_ne n1]
  exact h
theorem nb_of {b : Addr} {o : HO} (h : nb q x H b = some o) : H b = some o ∧ b ≠ q ∧ b ≠ x := by
  refine ⟨nb_sub _ _ h, fun z => ?_, fun z => ?_⟩
  · have h2 := del_sub (H := del H q) _ _ h
    rw [z, del_same] at h2
    cases h2
  · rw [z] at h
    unfold nb at h
    rw [del_same] at h
    cases h
theorem nb_same (s : Same H H') : Same (nb q x H) (nb q x H') := fun b o h => by
  obtain ⟨h1, h2, h3⟩ := nb_of h
  exact nb_at (s _ _ h1) h2 h3
theorem nb_fr (f : Fr q H H') : Same (nb q x H) (nb q x H') := fun b o h => by
  obtain ⟨h1, h2, h3⟩ := nb_of h
  exact nb_at (f _ _ h2 h1) h2 h3
theorem nb_but (f : But x H H') : Same (nb q x H) (nb q x H') := fun b o h => by
  obtain ⟨h1, h2, h3⟩ := nb_of h
  exact nb_at (f _ _ h3 h1) h2 h3
theorem Pen.but {n : Nat} {C dx : Addr} {fs : List (Str × V)} (hx : H x = some (.ins C dx fs)) (f : But x H H') (h : Pen H q n) : Pen H' q n := by
  obtain ⟨c, ns, i, g, p1, p2, p3⟩ := h
  exact ⟨c, ns, i, g, f _ _ (fun z => by rw [z, hx] at p1; cases p1) p1, f _ _ (fun z => by rw [z, hx] at p2; cases p2) p2, p3⟩
theorem ent_delL {T : Txt K mg} {ys : List V} (hq : H q = some (.lst ys)) {kv : Key × V} {e : Ent} (h : EntAt T H kv e) : EntAt T (del H q) kv e := by
  obtain ⟨t, y, q1, q2, ⟨C, f, c1, dy, q3⟩⟩ := h.v
  exact ⟨h.k, ⟨t, y, q1, del_at hq q2 (fun z => by cases z), ⟨C, f, c1, dy, del_at hq q3 fun z => by cases z⟩⟩, h.pa, h.pr, h.nm⟩
theorem ents_delL {T : Txt K mg} {ys : List V} (hq : H q = some (.lst ys)) : ∀ {kvs : List (Key × V)} {es : List Ent}, PySem.Paired (EntAt T H) kvs es → PySem.Paired (EntAt T (del H q)) kvs es
  | _, _, .nil => .nil
  | _, _, .cons h t => .cons (ent_delL hq h) (ents_delL hq t)
theorem dict_delL {T : Txt K mg} {ys : List V} (hq : H q = some (.lst ys)) {d : Addr} {es : List Ent} (h : DictAt T H d es) : DictAt T (del H q) d es := by
  obtain ⟨kvs, h1, h2, h3⟩ := h
  exact ⟨kvs, del_at hq h1 (fun z => by cases z), ents_delL hq h2, h3⟩
theorem dicts_delL {T : Txt K mg} {ys : List V} (hq : H q = some (.lst ys)) : ∀ {ds : List Addr} {ps : List (List Ent)}, PySem.Paired (DictAt T H) ds ps → PySem.Paired (DictAt T (del H q)) ds ps
  | _, _, .nil => .nil
  | _, _, .cons h t => .cons (dict_delL hq h) (dicts_delL hq t)
theorem past_delL {T : Txt K mg} {ys : List V} (hq : H q = some (.lst ys)) {t : Addr} {ps : List (List Ent)} (h : PastAt T H t ps) : PastAt T (del H q) t ps := by
  obtain ⟨ds, h1, h2⟩ := h
  exact ⟨ds, del_at hq h1 (fun z => by cases z), dicts_delL hq h2⟩
theorem ShAt.fr {T : Txt K mg} {n : Nat} {es : List Ent} {past ahead : List (List Ent)} (hP : Pen H q n) (f : Fr q H H') (h : ShAt T H x es past ahead) : ShAt T H' x es past ahead := by
  obtain ⟨dx, d, t, tp, ta, hx, hI⟩ := h
  obtain ⟨ys, hq⟩ := hP.at
  have nq : q ≠ x := fun z => by rw [z, hx] at hq; cases hq
  have hq2 : del H x q = some (.lst ys) := by rw [del_ne nq]; exact hq
  have s : Same (del (del H x) q) (del H' x) := fun b o hb => by
    have hb1 := del_sub _ _ hb
    have hb2 := del_sub _ _ hb1
    have n1 : b ≠ q := fun z => by rw [z, del_same] at hb; cases hb
    have n2 : b ≠ x := fun z => by rw [z, del_same] at hb1; cases hb1
    rw [del_ne n2]
    exact f _ _ n1 hb2
  obtain ⟨ns, n1, n2⟩ := hI.nm
  exact ⟨dx, d, t, tp, ta, f _ _ (Ne.symm nq) hx, ⟨(dict_delL hq2 hI.di).same s, ⟨ns, s _ _ (del_at hq2 n1 fun z => by cases z), n2⟩, (past_delL hq2 hI.pa).same s, (past_delL hq2 hI.ah).same s⟩⟩
theorem stAt_nb {n : Nat} {C dx : Addr} {fs : List (Str × V)} {l : Addr} {st : List Row} (hP : Pen H q n) (hx : H x = some (.ins C dx fs)) (nl : l ≠ q) (h : StAt H l st) : StAt (nb q x H) l st := by
  obtain ⟨rs, h1, h2, h3⟩ := h
  obtain ⟨ys, hq⟩ := hP.at
  refine ⟨rs, nb_at h1 nl (fun z => by rw [z, hx] at h1; cases h1), fun r hr => ?_, h3⟩
  have z2 : H r.1 = _ := h2 r hr
  exact nb_at z2 (fun z => by rw [z, hq] at z2; cases z2) (fun z => by rw [z, hx] at z2; cases z2)
theorem whE_delS {T : Txt K mg} {dx : Addr} {v1 v2 v3 v4 : V} (hx : H x = some (.ins T.a_Shelf dx (shFs v1 v2 v3 v4))) {y : Addr} {tr : Bool} {p b a : Int} (h : WhE T H y tr p b a) : WhE T (del H x) y tr p b a := by
  obtain ⟨C, f, c1, dy, q3⟩ := h
  refine ⟨C, f, c1, dy, del_at hx q3 fun z => ?_⟩
  injection z with z1 z2 z3
  injection z3 with z4 z5
  injection z4 with z6 z7
  exact absurd z6 (by decide)
theorem rowOk_nb {T : Txt K mg} {n : Nat} {dx : Addr} {v1 v2 v3 v4 : V} {r : Addr} {e : Ent} (hP : Pen H q n) (hx : H x = some (.ins T.a_Shelf dx (shFs v1 v2 v3 v4))) (h : RowOk T H r e) : RowOk T (nb q x H) r e := by
  obtain ⟨y, h1, h2⟩ := h.at_
  obtain ⟨ys, hq⟩ := hP.at
  have nx : x ≠ q := fun z => by rw [z, hq] at hx; cases hx
  refine ⟨⟨y, nb_at h1 (fun z => by rw [z, hq] at h1; cases h1) (fun z => by rw [z, hx] at h1; cases h1), ?_⟩, h.pa, h.pr, h.nm⟩
  have hx2 : del H q x = some (.ins T.a_Shelf dx (shFs v1 v2 v3 v4)) := by rw [del_ne nx]; exact hx
  exact whE_delS hx2 (h2.del hP)
theorem rowP_delS {T : Txt K mg} {dx : Addr} {v1 v2 v3 v4 : V} (hx : H x = some (.ins T.a_Shelf dx (shFs v1 v2 v3 v4))) {nv wv pv : V} {o : Option Ent} (h : RowP T H nv wv pv o) : RowP T (del H x) nv wv pv o := by
  have nt : ∀ {v : V} {t : String}, NT H v t → NT (del H x) v t := fun h => by
    cases h with
    | non => exact .non
    | bl b => exact .bl b
    | int i => exact .int i
    | str x => exact .str x
    | lst e => exact .lst (del_at hx e fun z => by cases z)
    | tup e => exact .tup (del_at hx e fun z => by cases z)
    | dic e => exact .dic (del_at hx e fun z => by cases z)
  cases h with
  | good e h1 h2 h3 h4 => exact .good e h1 (whE_delS hx h2) h3 h4
  | name h1 h2 h3 => exact .name (nt h1) h2 h3
  | wheel h1 h2 h3 => exact .wheel h1 (nt h2) h3
  | price h1 h2 h3 h4 => exact .price h1 (whE_delS hx h2) (nt h3) h4
theorem rowV_delS {T : Txt K mg} {dx : Addr} {v1 v2 v3 v4 : V} (hx : H x = some (.ins T.a_Shelf dx (shFs v1 v2 v3 v4))) {v : V} {o : Option Ent} (h : RowV T H v o) : RowV T (del H x) v o := by
  cases h with
  | three h1 h2 => exact .three (del_at hx h1 fun z => by cases z) (rowP_delS hx h2)
  | other h1 h2 =>
    refine .other ?_ h2
    cases h1 with
    | non => exact .non
    | bl b => exact .bl b
    | int i => exact .int i
    | str x => exact .str x
    | lst e => exact .lst (del_at hx e fun z => by cases z)
    | tup e => exact .tup (del_at hx e fun z => by cases z)
    | dic e => exact .dic (del_at hx e fun z => by cases z)
  | len h1 h2 => exact .len (del_at hx h1 fun z => by cases z) h2
end
/-- the rows as they stand, spoiled or not -/
structure RowsAt (T : Txt K mg) (G : Hp) (R Bd : Addr) (rows : List V) (os : List (Option Ent)) (bs : List Nat) : Prop where
  r : G R = some (.lst rows)
  b : G Bd = some (.lst (bs.map fun b => V.int (b : Nat)))
  len : rows.length = os.length
  l5 : rows.length ≤ 5
  good : ∀ (i : Nat) (v : V) (o : Option Ent), rows[i]? = some v → os[i]? = some o → GoodAt T G bs i v o ∧ RowV T G v o
theorem RowsAt.same {T : Txt K mg} {G G' : Hp} (s : Same G G') {R Bd : Addr} {rows : List V} {os : List (Option Ent)} {bs : List Nat} (h : RowsAt T G R Bd rows os bs) : RowsAt T G' R Bd rows os bs :=
  ⟨s _ _ h.r, s _ _ h.b, h.len, h.l5, fun i v o h1 h2 => ⟨(h.good i v o h1 h2).1.same s, (h.good i v o h1 h2).2.same s⟩⟩
theorem RowsAt.paired {T : Txt K mg} {G : Hp} {R Bd : Addr} {rows : List V} {os : List (Option Ent)} {bs : List Nat} (h : RowsAt T G R Bd rows os bs) : PySem.Paired (RowV T G) rows os := by
  have go : ∀ (rows : List V) (os : List (Option Ent)), rows.length = os.length → (∀ (i : Nat) (v : V) (o : Option Ent), rows[i]? = some v → os[i]? = some o → RowV T G v o) → PySem.Paired (RowV T G) rows os := by
    intro rows
    induction rows with
    | nil =>
      intro os hl _
      cases os with
      | nil => exact .nil
      | cons _ _ => cases hl
    | cons v r ih =>
      intro os hl hh
      cases os with
      | nil => cases hl
      | cons o os => exact .cons (hh 0 v o rfl rfl) (ih os (by simpa using hl) fun i v' o' h1 h2 => hh (i + 1) v' o' (by simpa using h1) (by simpa using h2))
  exact go rows os h.len (fun i v o h1 h2 => (h.good i v o h1 h2).2)

theorem num_asc {n : Int} (h : 0 ≤ n) : ∀ c ∈ TL.tl (NX.num n), c < 128 ∧ c ≠ 32 := by
  obtain ⟨m, rfl⟩ := Int.eq_ofNat_of_zero_le h
  intro c hc
  rw [NX.tl_num] at hc
  have z := List.all_eq_true.mp (NX.canon_dig (NX.numL_canon m)) c hc
  simp only [Bool.and_eq_true, decide_eq_true_eq] at z
  omega
theorem wtext_asc {tr : Bool} {p b a : Int} (hp : 0 ≤ p) (hb : 0 ≤ b) (ha : 0 ≤ a) : ∀ c ∈ TL.tl (NX.wtext tr p b a), c < 128 := by
  have k1 : ∀ c ∈ TL.tl ("wheel " : Str), c < 128 := by decide
  have k2 : ∀ c ∈ TL.tl (" " : Str), c < 128 := by decide
  have k3 : ∀ c ∈ TL.tl ("grid " : Str), c < 128 := by decide
  intro c hc
  cases tr with
  | true =>
    have hc : c ∈ TL.tl (("grid " : Str) ++ NX.num p) := hc
    rw [TL.tl_append, List.mem_append] at hc
    exact hc.elim (k3 c) fun z => (num_asc hp c z).1
  | false =>
    have hc : c ∈ TL.tl (("wheel " : Str) ++ NX.num p ++ " " ++ NX.num b ++ " " ++ NX.num a) := hc
    simp only [TL.tl_append, List.mem_append] at hc
    rcases hc with ((((z | z) | z) | z) | z) | z
    · exact k1 c z
    · exact (num_asc hp c z).1
    · exact k2 c z
    · exact (num_asc hb c z).1
    · exact k2 c z
    · exact (num_asc ha c z).1
theorem strOk_tl {w : Str} (h : ∀ c ∈ TL.tl w, c < 128) : PyData.canLay0 (.str w) = true := by
  have : ∀ c ∈ w.cps.toList, c < 128 := h
  simp only [PyData.canLay0, PyData.strOk]
  rw [Array.all_eq_true']
  intro c hc
  have := this c (by simpa using hc)
  simp
  omega
/-- a row as data -/
def rowP (r : Row) : PyData := .tuple [.str r.1, .str r.2.1, .int r.2.2]
def stD (st : List Row) : PyData := .list (st.map rowP)
theorem rows_dp {K : PySem.W.Frag} {H : Hp} : ∀ rs : List RowT, (∀ r ∈ rs, RowAt H r) → DpAll K H (rs.map fun r => V.ref r.1) ((rs.map (·.2)).map rowP)
  | [], _ => .nil
  | r :: rs, h => .cons (.tup (SqT.of (h r List.mem_cons_self)) (.cons (.str _) (.cons (.str _) (.cons (.int _) .nil)))) (rows_dp rs fun r' hr => h r' (List.mem_cons_of_mem _ hr))
theorem StAt.dp {K : PySem.W.Frag} {H : Hp} {l : Addr} {st : List Row} (h : StAt H l st) : Dp K H (.ref l) (stD st) := by
  obtain ⟨rs, h1, h2, rfl⟩ := h
  exact .lst (SqL.of h1) (rows_dp rs h2)
def RowS (r : Row) : Prop := PyData.canLay0 (.str r.1) = true ∧ PyData.canLay0 (.str r.2.1) = true
theorem stD_lay : ∀ st : List Row, (∀ r ∈ st, RowS r) → PyData.canLayAll0 (st.map rowP) = true ∧ PyData.depthAll (st.map rowP) ≤ 2
  | [], _ => ⟨rfl, Nat.zero_le _⟩
  | r :: st, h => by
    obtain ⟨i1, i2⟩ := stD_lay st fun r' hr => h r' (List.mem_cons_of_mem _ hr)
    obtain ⟨h1, h2⟩ := h r List.mem_cons_self
    constructor
    · show ((PyData.canLay0 (.str r.1) && (PyData.canLay0 (.str r.2.1) && true)) && PyData.canLayAll0 (st.map rowP)) = true
      rw [h1, h2, i1]
      rfl
    · have e : PyData.depth (rowP r) ≤ 2 := by
        unfold rowP
        simp only [PyData.depth, PyData.depthAll]
        decide
      rw [List.map_cons]
      simp only [PyData.depthAll]
      omega
theorem stD_ok {st : List Row} (h : ∀ r ∈ st, RowS r) : (stD st).canLay0 = true ∧ SeqAt.shaped (stD st) = true := by
  obtain ⟨i1, i2⟩ := stD_lay st h
  have e : (stD st).canLay0 = true := i1
  refine ⟨e, ?_⟩
  unfold SeqAt.shaped
  rw [e, Bool.true_and]
  refine decide_eq_true ?_
  unfold stD
  simp only [PyData.depth]
  omega
theorem ents_rows {T : Txt K mg} {H : Hp} : ∀ {kvs : List (Key × V)} {es : List Ent}, PySem.Paired (EntAt T H) kvs es → ∀ e ∈ es, RowS e.row
  | _, _, .nil, _, h => absurd h List.not_mem_nil
  | _, _, .cons x t, e, h => by
    rcases List.mem_cons.mp h with rfl | h
    · have p1 := x.pa.hp.1
      refine ⟨strOk_tl fun c hc => ?_, strOk_tl (wtext_asc (by omega) x.pa.hb.1 x.pa.ha.1)⟩
      have nm := x.nm
      have nm : (decide (1 ≤ (e.n.length : Int) ∧ (e.n.length : Int) ≤ 8) && (Txt.isascii e.n && (Txt.isalpha e.n && Txt.islower e.n))) = true := nm
      rw [Bool.and_eq_true, Bool.and_eq_true] at nm
      have a := nm.2.1
      unfold Txt.isascii at a
      rw [← Array.all_toList, List.all_eq_true] at a
      exact of_decide_eq_true (a c hc)
    · exact ents_rows t e h
/-- the state of a shelf can be compared -/
theorem ShAt.rows {T : Txt K mg} {H : Hp} {x : Addr} {es : List Ent} {past ahead : List (List Ent)} {st : List Row} (h : ShAt T H x es past ahead) (hst : IsSt es st) : (stD st).canLay0 = true ∧ SeqAt.shaped (stD st) = true := by
  obtain ⟨dx, d, t, tp, ta, hx, hI⟩ := h.fld
  obtain ⟨kvs, _, h2, _, _⟩ := hI.di
  refine stD_ok fun r hr => ?_
  obtain ⟨e, he, rfl⟩ := List.mem_map.mp ((hst.2 r).mp hr)
  exact ents_rows h2 e he
/-- the words of a shelf that refused -/
def badW (i : Nat) : PyData := .tuple [.str "BADDEED", .int (i : Nat), .bool true, .bool true, .bool false]
theorem badW_ok : ∀ i : Nat, i < 6 → (badW i).showable = true ∧ (badW i).depth ≤ 60 ∧ (badW i).shown.length ≤ 1000 := by decide +kernel
theorem run_lt : ∀ {os : List (Option Ent)} {i j : Nat} {es : List Ent}, runR i es os = .error j → i ≤ j ∧ j < i + os.length
  | [], _, _, _, h => by cases h
  | Option.none :: r, i, j, es, h => by
    have h : Except.error i = (Except.error j : Except Nat (List Ent)) := h
    cases h
    exact ⟨Nat.le_refl _, by simp⟩
  | some e :: r, i, j, es, h => by
    have h : (if fullE es e = true then Except.error i else runR (i + 1) (putE es e) r) = Except.error j := h
    by_cases q : fullE es e = true
    · rw [if_pos q] at h
      cases h
      exact ⟨Nat.le_refl _, by simp⟩
    · rw [if_neg q] at h
      have := run_lt h
      rw [List.length_cons]
      omega
theorem pair_dp {K : PySem.W.Frag} {H : Hp} {p : Addr} {a b : Int} (h : H p = some (.tup [.int a, .int b])) : Dp K H (.ref p) (.tuple [.int a, .int b]) := .tup (SqT.of h) (.cons (.int _) (.cons (.int _) .nil))
theorem pair_ok (a b : Int) : (PyData.tuple [.int a, .int b]).canLay0 = true ∧ SeqAt.shaped (.tuple [.int a, .int b]) = true := by
  have e : (PyData.tuple [.int a, .int b]).canLay0 = true := rfl
  refine ⟨e, ?_⟩
  unfold SeqAt.shaped
  rw [e, Bool.true_and]
  refine decide_eq_true ?_
  simp only [PyData.depth, PyData.depthAll]
  decide

theorem rowOk_fr {T : Txt K mg} {H H' : Hp} {q r : Addr} {n : Nat} {e : Ent} (hP : Pen H q n) (f : Fr q H H') (h : RowOk T H r e) : RowOk T H' r e := by
  obtain ⟨y, h1, h2⟩ := h.at_
  obtain ⟨_, hq⟩ := hP.at
  exact ⟨⟨y, f _ _ (fun z => by rw [z, hq] at h1; cases h1) h1, h2.fr hP f⟩, h.pa, h.pr, h.nm⟩
theorem rowOk_upd {T : Txt K mg} {H : Hp} {D r : Addr} {ys zs : List V} {e : Ent} (hD : H D = some (.lst ys)) (h : RowOk T H r e) : RowOk T (upd H D (.lst zs)) r e := by
  obtain ⟨y, h1, C, g, wc, dx, hx⟩ := h.at_
  refine ⟨⟨y, ?_, C, g, wc, dx, ?_⟩, h.pa, h.pr, h.nm⟩
  · rw [upd_ne]
    · exact h1
    · rintro rfl
      rw [hD] at h1; cases h1
  · rw [upd_ne]
    · exact hx
    · rintro rfl
      rw [hD] at hx; cases hx
theorem del_upd {H : Hp} {q D : Addr} {o : HO} (n : D ≠ q) : del (upd H D o) q = upd (del H q) D o := by
  funext b
  by_cases h1 : b = q
  · rw [h1, del_same, upd_ne (Ne.symm n), del_same]
  · rw [del_ne h1]
    by_cases h2 : b = D
    · rw [h2, upd_same, upd_same]
    · rw [upd_ne h2, upd_ne h2, del_ne h1]
theorem nt_upd {H : Hp} {D : Addr} {ys zs : List V} (hD : H D = some (.lst ys)) {v : V} {t : String} (h : NT H v t) : NT (upd H D (.lst zs)) v t := by
  have ne : ∀ {a : Addr} {o : HO}, H a = some o → (∀ l, o ≠ .lst l) → (upd H D (.lst zs)) a = some o := fun h n => by
    rw [upd_ne]
    · exact h
    · rintro rfl
      rw [hD] at h
      exact n _ (Option.some.inj h).symm
  cases h with
  | non => exact .non
  | bl b => exact .bl b
  | int i => exact .int i
  | str x => exact .str x
  | @lst a xs e =>
    by_cases z : a = D
    · subst z
      exact .lst upd_same
    · exact .lst ((upd_ne z).trans e)
  | tup e => exact .tup (ne e fun _ z => by cases z)
  | dic e => exact .dic (ne e fun _ z => by cases z)
theorem whE_upd {T : Txt K mg} {H : Hp} {D : Addr} {ys zs : List V} (hD : H D = some (.lst ys)) {y : Addr} {tr : Bool} {p b a : Int} (h : WhE T H y tr p b a) : WhE T (upd H D (.lst zs)) y tr p b a := by
  obtain ⟨C, g, wc, dx, hx⟩ := h
  refine ⟨C, g, wc, dx, ?_⟩
  rw [upd_ne]
  · exact hx
  · rintro rfl
    rw [hD] at hx; cases hx
theorem rowV_upd {T : Txt K mg} {H : Hp} {D : Addr} {ys zs : List V} (hD : H D = some (.lst ys)) {v : V} {o : Option Ent} (h : RowV T H v o) : RowV T (upd H D (.lst zs)) v o := by
  have tu : ∀ {a : Addr} {xs : List V}, H a = some (.tup xs) → (upd H D (.lst zs)) a = some (.tup xs) := fun h => by
    rw [upd_ne]
    · exact h
    · rintro rfl
      rw [hD] at h; cases h
  cases h with
  | three h1 h2 =>
    refine .three (tu h1) ?_
    cases h2 with
    | good e g1 g2 g3 g4 => exact .good e g1 (whE_upd hD g2) g3 g4
    | name g1 g2 g3 => exact .name (nt_upd hD g1) g2 g3
    | wheel g1 g2 g3 => exact .wheel g1 (nt_upd hD g2) g3
    | price g1 g2 g3 g4 => exact .price g1 (whE_upd hD g2) (nt_upd hD g3) g4
  | other h1 h2 => exact .other (nt_upd hD h1) h2
  | len h1 h2 => exact .len (tu h1) h2
theorem goodAt_upd {T : Txt K mg} {H : Hp} {D : Addr} {ys zs : List V} (hD : H D = some (.lst ys)) {bs : List Nat} {i : Nat} {v : V} {o : Option Ent} (h : GoodAt T H bs i v o) : GoodAt T (upd H D (.lst zs)) bs i v o := by
  rcases h with h | ⟨h1, r, e, h2, h3, h4⟩
  · exact .inl h
  · exact .inr ⟨h1, r, e, h2, h3, rowOk_upd hD h4⟩
theorem rowsAt_of {T : Txt K mg} {G : Hp} {R Bd : Addr} {rs : List (Addr × Ent)} (hR : G R = some (.lst (rs.map fun r => V.ref r.1))) (hB : G Bd = some (.lst [])) (l5 : rs.length ≤ 5) (hrs : ∀ r ∈ rs, RowOk T G r.1 r.2) : RowsAt T G R Bd (rs.map fun r => V.ref r.1) (rs.map fun r => some r.2) [] := by
  refine ⟨hR, hB, by rw [List.length_map, List.length_map], by rw [List.length_map]; exact l5, fun i v o h1 h2 => ?_⟩
  rw [List.getElem?_map] at h1 h2
  cases q : rs[i]? with
  | none => rw [q] at h1; cases h1
  | some r =>
    rw [q] at h1 h2
    obtain rfl : v = .ref r.1 := (Option.some.inj h1).symm
    obtain rfl : o = some r.2 := (Option.some.inj h2).symm
    have ok := hrs r (List.mem_of_getElem? q)
    exact ⟨.inr ⟨List.not_mem_nil, r.1, r.2, rfl, rfl, ok⟩, ok.row⟩
theorem nb_upd {H : Hp} {q x D : Addr} {o : HO} (n1 : D ≠ q) (n2 : D ≠ x) : nb q x (upd H D o) = upd (nb q x H) D o := by
  unfold nb
  rw [del_upd n1, del_upd n2]
/-- rows so far -/
def GR (T : Txt K mg) (G : Hp) (bs : List Nat) (rows : List V) (os : List (Option Ent)) : Prop := ∀ (i : Nat) (v : V) (o : Option Ent), rows[i]? = some v → os[i]? = some o → GoodAt T G bs i v o ∧ RowV T G v o
theorem GR.same {T : Txt K mg} {G G' : Hp} (s : Same G G') {bs : List Nat} {rows : List V} {os : List (Option Ent)} (h : GR T G bs rows os) : GR T G' bs rows os := fun i v o h1 h2 => ⟨(h i v o h1 h2).1.same s, (h i v o h1 h2).2.same s⟩
theorem GR.upd {T : Txt K mg} {G : Hp} {D : Addr} {ys zs : List V} (hD : G D = some (.lst ys)) {bs : List Nat} {rows : List V} {os : List (Option Ent)} (h : GR T G bs rows os) : GR T (L2.upd G D (.lst zs)) bs rows os := fun i v o h1 h2 => ⟨goodAt_upd hD (h i v o h1 h2).1, rowV_upd hD (h i v o h1 h2).2⟩
theorem GR.snoc {T : Txt K mg} {G : Hp} {bs : List Nat} {rows : List V} {os : List (Option Ent)} (hl : rows.length = os.length) (h : GR T G bs rows os) {v : V} {o : Option Ent} (hg : GoodAt T G bs rows.length v o) (hv : RowV T G v o) : GR T G bs (rows ++ [v]) (os ++ [o]) := fun i v' o' h1 h2 => by
  by_cases hi : i < rows.length
  · rw [List.getElem?_append_left hi] at h1
    rw [List.getElem?_append_left (by omega)] at h2
    exact h i v' o' h1 h2
  · have hi2 : i = rows.length := by
      have := (List.getElem?_eq_some_iff.mp h1).1
      rw [List.length_append, List.length_singleton] at this
      omega
    subst hi2
    rw [List.getElem?_concat_length] at h1
    rw [hl, List.getElem?_concat_length] at h2
    cases h1
    cases h2
    exact ⟨hg, hv⟩
/-- what stands behind the call that stocks the shelf -/
def ToldAt (T : Txt K mg) (H : Hp) (x : Addr) (es : List Ent) (past ahead : List (List Ent)) (told : V) : Except Nat (List Ent) → Prop
  | .error i => ShAt T H x es past ahead ∧ ∃ tt, told = .ref tt ∧ H tt = some (.tup [.str "BADDEED", .int (i : Nat), .bl true, .bl true, .bl false])
  | .ok es' => told = .non ∧ ShAt T H x es' (past ++ [es]) []
def spRight (T : Txt K mg) : Sp := fun vs H Q _ => ∃ (q x L : Addr) (n : Nat) (ns : List Str) (es : List Ent) (past ahead : List (List Ent)), vs = [.ref q, .ref x, .ref L] ∧ Pen H q n ∧ n < 80000 ∧ ShAt T H x es past ahead ∧ past.length < 500 ∧ ahead.length < 500 ∧ SqL K H L (ns.map V.str) ∧ L ≠ q ∧ 0 < ns.length ∧ ns.length < 100 ∧ (∀ z ∈ ns, nameB (.str z) = true) ∧
  ∀ (H' : Hp) (es' : List Ent) (past' ahead' : List (List Ent)), Pen H' q (n + 100) → ShAt T H' x es' past' ahead' → past'.length ≤ past.length + 1 → ahead'.length ≤ ahead.length + 1 → Same (nb q x H) (nb q x H') → Q (.bl true) H'
theorem ok_right (HP : PrF lawFile P) (T : Txt K mg) (W : Whl T) (B : Caught T) : FnG P w K mg base CX0 9 T.a_right (spRight T) := by
  refine FnG.mk0 T.F_right sc_right (b_right T) (fun vs H Q E h => ?_) (fun cdv A outer s H vs Q E gu hr h => ?_)
  · obtain ⟨q, x, L, n, ns, es, past, ahead, rfl, _⟩ := h; rfl
  · obtain ⟨q, x, L, n, ns, es, past, ahead, rfl, hP, hn, hS, hpl, hal, hL, nL, n0, n1, hns, k⟩ := h
    refine ⟨_, C8.pss_cut (ps_asg (pe_tup (pa_cons (pe_lc (own := [("_law_lap", 5)]) (g := gName 5) (tt := tYes) rfl sc_right.nd (pi_range1 (by rfl) T.n_range (pa_cons (pe_call (ok_draw T) (hr.mono (by decide)) rfl T.m_draw T.F_draw.kp (b_draw T) .nil pass0 (pa_cons (pv 0) (pa_cons (pe_int) (pa_nil)))) (pa_nil))) (blkOk_by (own := [("_law_lap", 5)]) (N := ["_law_pen_here", "_law_shelf", "_law_names", "_law_rows", "_law_bad_here", "_law_lap", "_law_at", "_law_row_here", "_law_state_here", "_law_many", "_law_again", "_law_due", "_law_told", "e", "_law_found"]) (sc := defScope s_right) (by decide +kernel)) (fun _ _ _ _ _ => pg_name (i := 5) sc_right.nd rfl (Or.inl rfl)) (fun _ _ _ _ _ => pts_nil) (fun _ _ _ _ _ => pe_call (ok_row HP T W) (hr.mono (by decide)) rfl T.m_row T.F_row.kp (b_row T) .nil pass0 (pa_cons (pv 0) (pa_cons (pv 2) (pa_nil))))) (pa_cons (pe_lst (pa_nil)) (pa_nil)))) (pg_tup rfl (pgs_cons (pg_name (i := 3) sc_right.nd rfl (Or.inl rfl)) (pgs_cons (pg_name (i := 4) sc_right.nd rfl (Or.inr rfl)) (pgs_nil)))))
      (C8.pss_cut (ps_if (PW.pt (pw_and (pt_cmpR (op_neL hr.units) (pv 3) (pe_lst pa_nil) (nomark _)) (pw_and1 (pt_cmpR op_eq (pe_call (ok_draw T) (hr.mono (by decide)) rfl T.m_draw T.F_draw.kp (b_draw T) .nil pass0 (pa_cons (pv 0) (pa_cons (pe_int) (pa_nil)))) (pe_int) (nomark _))))) (pss_cons (ps_expr (pe_bm PySem.F.plainAttrs_list PySem.F.slot_list_append PySem.F.type_list_append mt_append (pv 4) (pa_cons (pe_call (ok_draw T) (hr.mono (by decide)) rfl T.m_draw T.F_draw.kp (b_draw T) .nil pass0 (pa_cons (pv 0) (pa_cons (pe_callB call_len_seq (by rfl) T.n_len (by decide +kernel) (pa_cons (pv 3) (pa_nil))) (pa_nil)))) (pa_nil))))
      (C8.pss_cut (ps_if (pt_cmpR op_eq (pe_call (ok_draw T) (hr.mono (by decide)) rfl T.m_draw T.F_draw.kp (b_draw T) .nil pass0 (pa_cons (pv 0) (pa_cons (pe_int) (pa_nil)))) (pe_int) (nomark _)) (pss_one (ps_expr (pe_bm PySem.F.plainAttrs_list PySem.F.slot_list_append PySem.F.type_list_append mt_append (pv 4) (pa_cons (pe_call (ok_draw T) (hr.mono (by decide)) rfl T.m_draw T.F_draw.kp (b_draw T) .nil pass0 (pa_cons (pv 0) (pa_cons (pe_callB call_len_seq (by rfl) T.n_len (by decide +kernel) (pa_cons (pv 3) (pa_nil))) (pa_nil)))) (pa_nil))))) (pss_nil))
      (pss_one (ps_setLc (i := 3) (own := [("_law_at", 6), ("_law_row_here", 7)]) (tt := tYes) rfl sc_right.nd rfl rfl (sw_true rfl rfl rfl (by decide +kernel)) (pi_enum (by rfl) T.n_enumerate (pa_cons (pv 3) pa_nil)) (blkOk_by (own := [("_law_at", 6), ("_law_row_here", 7)]) (N := ["_law_pen_here", "_law_shelf", "_law_names", "_law_rows", "_law_bad_here", "_law_lap", "_law_at", "_law_row_here", "_law_state_here", "_law_many", "_law_again", "_law_due", "_law_told", "e", "_law_found"]) (sc := defScope s_right) (by decide +kernel)) (fun _ _ _ _ _ => pg_tup2 K 2 (by rfl) (by rfl) (pgs_cons (pg_name (i := 6) sc_right.nd rfl (Or.inl rfl)) (pgs_cons (pg_name (i := 7) sc_right.nd rfl (Or.inl rfl)) (pgs_nil)))) (fun _ _ _ _ _ => pts_nil) (fun _ _ _ _ _ => pe_ifExp (pt_cmpR (op_in_seq2 K (by rfl)) (pv 6) (pv 4) rfl) (pe_call (ok_bad HP T W) (hr.mono (by decide)) rfl T.m_bad T.F_bad.kp (b_bad T) .nil pass0 (pa_cons (pv 0) (pa_cons (pv 7) (pa_nil)))) (pv 7)))))) (pss_nil))
      (pss_cons (ps_par3 (i := 8) (j := 9) (l := 10) (by rfl) sc_right.nd rfl rfl rfl (by decide) (by decide) (by decide) rfl rfl rfl (pa_cons (pe_call (ok_state HP T W) (hr.mono (by decide)) rfl T.m_state T.F_state.kp (b_state T) .nil pass0 (pa_cons (pv 1) (pa_nil))) (pa_cons (pe_propW (pv 1) T.p_can_undo (ok_Shelf_can_undo T) (hr.mono (by decide)) (b_Shelf_can_undo T) .nil pass0 rfl) (pa_cons (pe_propW (pv 1) T.p_can_redo (ok_Shelf_can_redo T) (hr.mono (by decide)) (b_Shelf_can_redo T) .nil pass0 rfl) (pa_nil)))) (by rfl))
      (pss_cons (ps_par (i := 11) (j := 12) (by rfl) sc_right.nd rfl rfl (by decide) rfl rfl (pa_cons (pe_call (ok_first_bad T) (hr.mono (by decide)) rfl T.m_first_bad T.F_first_bad.kp (b_first_bad T) .nil pass0 (pa_cons (pv 8) (pa_cons (pv 3) (pa_cons (pv 4) (pa_nil))))) (pa_cons (pe_str) (pa_nil))) (by rfl))
      (C8.pss_cut (ps_try_as (i := 13) (c := .ref T.badd.C) rfl rfl sc_right.nd rfl rfl ⟨rfl, by decide, .inl T.badd.m⟩ takes0 (fun W1 pn xe tk _ => pss_one (ps_set (i := 12) sc_right.nd rfl (Or.inl rfl) (pe_callS (ok_stock HP T W B) (hr.mono (by decide)) rfl T.m_stock T.F_stock.kp (b_stock T) (fun σ => passAt tk σ) (pa_cons (pv 1) (pa_cons (pv 3) pa_nil))))) (fun a oe cls d pn hz hd => pss_one (ps_set (i := 12) sc_right.nd rfl (Or.inl rfl) (pe_tup (pa_cons (pe_str) (pa_cons (pe_fldP2 K rfl List.mem_cons_self hz hd (pv 13)) (pa_cons (pe_callB (call_isP2 K rfl List.mem_cons_self hz hd) (by rfl) T.n_isinstance (by decide +kernel) (pa_cons (pv 13) (pa_cons (pe_glob (v := .ref T.R) rfl T.m_R rfl) (pa_nil)))) (pa_cons (pe_callB (call_isP2 K rfl List.mem_cons_self hz hd) (by rfl) T.n_isinstance (by decide +kernel) (pa_cons (pv 13) (pa_cons (pe_bltn (v := .ty "ValueError") (u := .type "ValueError") (by rfl) T.n_ValueError (by decide +kernel) rfl) (pa_nil)))) (pa_cons (pe_callB (call_isP2 K rfl List.mem_cons_self hz hd) (by rfl) T.n_isinstance (by decide +kernel) (pa_cons (pv 13) (pa_cons (pe_glob (v := .ref T.bads.C) rfl T.bads.m rfl) (pa_nil)))) (pa_nil))))))))))
      (pss_cons (ps_if (pt_cmpR op_notN (pv 11) (pe_non) (nomark _)) (pss_cons (ps_if (pt_cmpR op_ne (pe_callB (call_rep gu hr.units) (by rfl) T.n_repr (by decide +kernel) (pa_cons (pv 12) (pa_nil))) (pe_callB (call_rep gu hr.units) (by rfl) T.n_repr (by decide +kernel) (pa_cons (pe_tup (pa_cons (pe_str) (pa_cons (pv 11) (pa_cons (pe_bl) (pa_cons (pe_bl) (pa_cons (pe_bl) (pa_nil))))))) (pa_nil))) (nomark _)) (pss_one (ps_ret (pe_bl))) (pss_nil))
      (pss_one (ps_ret (pe_and (pe_cmpR (op_eqD hr.units) (pe_call (ok_state HP T W) (hr.mono (by decide)) rfl T.m_state T.F_state.kp (b_state T) .nil pass0 (pa_cons (pv 1) (pa_nil))) (pv 8) (nomark _)) (pe_one (pe_cmpR (op_eqD hr.units) (pe_tup (pa_cons (pe_propW (pv 1) T.p_can_undo (ok_Shelf_can_undo T) (hr.mono (by decide)) (b_Shelf_can_undo T) .nil pass0 rfl) (pa_cons (pe_propW (pv 1) T.p_can_redo (ok_Shelf_can_redo T) (hr.mono (by decide)) (b_Shelf_can_redo T) .nil pass0 rfl) (pa_nil)))) (pe_tup (pa_cons (pv 9) (pa_cons (pv 10) (pa_nil)))) (nomark _))))))) (pss_nil))
      (pss_cons (ps_if (PW.pt (pw_or (pt_cmpR op_notN (pv 12) (pe_non) (nomark _)) (pw_or1 (pt_cmpR (op_neD hr.units) (pe_tup (pa_cons (pe_propW (pv 1) T.p_can_undo (ok_Shelf_can_undo T) (hr.mono (by decide)) (b_Shelf_can_undo T) .nil pass0 rfl) (pa_cons (pe_propW (pv 1) T.p_can_redo (ok_Shelf_can_redo T) (hr.mono (by decide)) (b_Shelf_can_redo T) .nil pass0 rfl) (pa_nil)))) (pe_tup (pa_cons (pe_op op_add (pv 9) (pe_int)) (pa_cons (pe_int) (pa_nil)))) (nomark _))))) (pss_one (ps_ret (pe_bl))) (pss_nil))
      (pss_cons (ps_set (i := 14) sc_right.nd rfl (Or.inl rfl) (pv 8))
      (pss_cons (ps_for PassesOwn.never rfl (pi_list (pv 3)) (pg_name (i := 7) sc_right.nd rfl (Or.inl rfl)) (pss_one (ps_set (i := 14) sc_right.nd rfl (Or.inl rfl) (pe_call (ok_with HP T W) (hr.mono (by decide)) rfl T.m_with T.F_with.kp (b_with T) .nil pass0 (pa_cons (pv 14) (pa_cons (pv 7) (pa_nil)))))))
      (pss_cons (ps_if (pt_cmpR (op_neD hr.units) (pe_call (ok_state HP T W) (hr.mono (by decide)) rfl T.m_state T.F_state.kp (b_state T) .nil pass0 (pa_cons (pv 1) (pa_nil))) (pv 14) (nomark _)) (pss_one (ps_ret (pe_bl))) (pss_nil))
      (pss_cons (ps_if (pt_cmpR op_eq (pe_call (ok_draw T) (hr.mono (by decide)) rfl T.m_draw T.F_draw.kp (b_draw T) .nil pass0 (pa_cons (pv 0) (pa_cons (pe_int) (pa_nil)))) (pe_int) (nomark _)) (pss_cons (ps_expr (pe_meth0 (pv 1) T.scls T.s_undo (ok_Shelf_undo T) (hr.mono (by decide)) (b_Shelf_undo T) .nil pass0))
      (pss_one (ps_ret (pe_and (pe_cmpR (op_eqD hr.units) (pe_call (ok_state HP T W) (hr.mono (by decide)) rfl T.m_state T.F_state.kp (b_state T) .nil pass0 (pa_cons (pv 1) (pa_nil))) (pv 8) (nomark _)) (pe_one (pe_cmpR (op_eqD hr.units) (pe_tup (pa_cons (pe_propW (pv 1) T.p_can_undo (ok_Shelf_can_undo T) (hr.mono (by decide)) (b_Shelf_can_undo T) .nil pass0 rfl) (pa_cons (pe_propW (pv 1) T.p_can_redo (ok_Shelf_can_redo T) (hr.mono (by decide)) (b_Shelf_can_redo T) .nil pass0 rfl) (pa_nil)))) (pe_tup (pa_cons (pv 9) (pa_cons (pe_int) (pa_nil)))) (nomark _))))))) (pss_nil))
      (pss_one (ps_ret (pe_bl))))))))))))), ?_⟩
    obtain ⟨dx, d, t, tp, ta, hx, _⟩ := hS.fld
    have xq : x ≠ q := fun z => by
      obtain ⟨_, hq⟩ := hP.at
      rw [z, hq] at hx
      cases hx
    refine ⟨fun σ H1 => ∃ (R Bd : Addr) (rs : List (Addr × Ent)), σ = [some (.ref q), some (.ref x), some (.ref L), some (.ref R), some (.ref Bd)] ++ List.replicate 10 Option.none ∧ Pen H1 q (n + 60) ∧ Fr q H H1 ∧ nb q x H1 R = some (.lst (rs.map fun r => V.ref r.1)) ∧ nb q x H1 Bd = some (.lst []) ∧ R ≠ Bd ∧ rs.length ≤ 5 ∧ (H R = Option.none ∧ H Bd = Option.none) ∧ ∀ r ∈ rs, RowOk T (nb q x H1) r.1 r.2, ?_, ?_⟩
    · refine ⟨_, rfl, q, 6, n, rfl, by decide, by decide, hP, by omega, fun r H1 r0 r1 hP1 f1 => ?_⟩
      refine ⟨r, rfl, by omega, by omega, fun D hD => ?_⟩
      have nD : D ≠ q := hP1.neq hD
      have hx1 := f1 _ _ xq hx
      have nDx : D ≠ x := fun z => by rw [z, hx1] at hD; cases hD
      have hDH : H D = Option.none := by
        match e : H D with
        | Option.none => rfl
        | some o => rw [f1 _ _ nD e] at hD; cases hD
      refine lc_range (lo := 0) (n := r.toNat) (fun t H' => ∃ rs : List (Addr × Ent), H' D = some (.lst (rs.map fun r => V.ref r.1)) ∧ rs.length = t ∧ Pen H' q (n + 1 + 8 * t) ∧ Fr q H1 H' ∧ ∀ r ∈ rs, RowOk T H' r.1 r.2)
        ⟨[], upd_same, rfl, hP1.same (same_new hD), same_fr (same_new hD), fun _ h => absurd h List.not_mem_nil⟩ ?_ ?_
      · rintro t H' ht ⟨rs, e1, l1, hP2, f2, hrs⟩
        refine ⟨rfl, ?_⟩
        have hL2 : SqL K H' L (ns.map V.str) := f2.seq nL (f1.seq nL hL)
        refine ⟨_, rfl, _, rfl, q, L, n + 1 + 8 * t, ns, rfl, hP2, by omega, hL2, nL, n0, n1, hns, fun ra e H'' hra _ _ hP3 f3 => ?_⟩
        have eD := f3 _ _ nD e1
        refine ⟨_, eD, by rw [List.length_map, l1, sizeLine_eq]; omega, rs ++ [(ra, e)], by rw [upd_same, List.map_append]; rfl, by rw [List.length_append, l1]; rfl, (pen_updL hP1 hD (f2.trans f3) hP3).mono (by omega), fr_updL nD hD (f2.trans f3), fun r hr => ?_⟩
        rcases List.mem_append.mp hr with hr | hr
        · exact rowOk_upd eD (rowOk_fr hP2 f3 (hrs r hr))
        · rw [List.mem_singleton] at hr
          subst hr
          exact rowOk_upd eD hra
      · rintro H' ⟨rs, e1, l1, hP2, f2, hrs⟩
        have F := f1.trans f2
        have hx2 := F _ _ xq hx
        refine ⟨(by show 0 ≤ sizeLine; decide), fun Bd hBd => ?_⟩
        have sB := same_new (o := .lst []) hBd
        have nB : Bd ≠ q := hP2.neq hBd
        have nBx : Bd ≠ x := fun z => by rw [z, hx2] at hBd; cases hBd
        have nDB : D ≠ Bd := ne_of_none e1 hBd
        have hBH : H Bd = Option.none := by
          match e : H Bd with
          | Option.none => rfl
          | some o => rw [F _ _ nB e] at hBd; cases hBd
        refine tNil_to ⟨(by show 2 ≤ sizeLine; decide), fun tp htp => ?_⟩
        have sT := same_new (o := .tup [.ref D, .ref Bd]) htp
        have S := sB.trans sT
        refine ⟨tp, _, rfl, SqT.of upd_same, rfl, _, _, rfl, _, _, rfl, rfl, D, Bd, rs, rfl, (hP2.same S).mono (by omega), F.trans (same_fr S), nb_at (S _ _ e1) nD nDx, nb_at (sT _ _ upd_same) nB nBx, nDB, by omega, ⟨hDH, hBH⟩, fun r hr => rowOk_nb (hP2.same S) (S _ _ hx2) ((hrs r hr).same S)⟩
    · rintro σ H1 ⟨R, Bd, rs, rfl, hP1, f1, hR, hBd, nRB, hl5, ⟨hRH, hBH⟩, hrs⟩
      have hx1 := f1 _ _ xq hx
      have hRo := nb_of hR
      have hBo := nb_of hBd
      refine ⟨fun σ H2 => ∃ (R2 : Addr) (rows : List V) (os : List (Option Ent)) (bs : List Nat) (x5 x6 x7 : Option V), σ = [some (.ref q), some (.ref x), some (.ref L), some (.ref R2), some (.ref Bd), x5, x6, x7] ++ List.replicate 7 Option.none ∧ Pen H2 q (n + 80) ∧ Fr q H H2 ∧ RowsAt T (nb q x H2) R2 Bd rows os bs, ?_, ?_⟩
      · refine ⟨_, rfl, (by show 0 ≤ sizeLine; decide), fun Z hZ => ?_⟩
        have sZ := same_new (o := .lst []) hZ
        have z1 : Same (nb q x H1) (nb q x (upd H1 Z (.lst []))) := nb_same sZ
        have hPz := hP1.same sZ
        have fz := f1.trans (same_fr sZ)
        have hRz := z1 _ _ hR
        have hBz := z1 _ _ hBd
        have hrz : ∀ r ∈ rs, RowOk T (nb q x (upd H1 Z (.lst []))) r.1 r.2 := fun r hr => (hrs r hr).same z1
        have eZ : (upd H1 Z (.lst [])) Z = some (.lst []) := upd_same
        generalize upd H1 Z (.lst []) = H2 at z1 hPz fz hRz hBz hrz eZ ⊢
        cases rs with
        | nil =>
          refine .inl ⟨.list [], .list [], .lst (SqL.of (nb_of hRz).1) .nil, .lst (SqL.of eZ) .nil, by decide +kernel, by decide +kernel, _, rfl, if_false_of (by decide +kernel) ?_⟩
          exact ⟨R, [], [], [], Option.none, Option.none, Option.none, rfl, hPz.mono (by omega), fz, rowsAt_of (rs := []) hRz hBz (by decide) hrz⟩
        | cons r0 rs1 =>
          generalize hrs1 : r0 :: rs1 = rs at hl5 hRz hrz
          have lpos : 0 < rs.length := by rw [← hrs1]; simp
          rw [show ((r0 :: rs1).map fun r => V.ref r.1) = rs.map fun r => V.ref r.1 by rw [hrs1]] at hR hRo
          clear hR hRo hrs hrs1
          refine .inr ⟨R, Z, _, _, rfl, rfl, SqL.of (nb_of hRz).1, SqL.of eZ, by rw [List.length_map]; exact fun z => absurd z (Nat.ne_of_gt lpos), _, rfl, iteT ?_⟩
          refine ⟨_, rfl, q, 2, n + 60, rfl, by decide, by decide, hPz, by omega, fun a H3 a0 a1 hP3 f3 => ⟨rfl, _, rfl, ?_⟩⟩
          have F3 := fz.trans f3
          have hR3 := nb_fr (x := x) f3 _ _ hRz
          have hB3 := nb_fr (x := x) f3 _ _ hBz
          have hr3 : ∀ r ∈ rs, RowOk T (nb q x H3) r.1 r.2 := fun r hr => (hrz r hr).same (nb_fr f3)
          refine ite2 (fun hc => ?_) (fun hc => ?_)
          rotate_left
          · exact ⟨R, _, _, [], Option.none, Option.none, Option.none, rfl, hP3.mono (by omega), F3, rowsAt_of hR3 hB3 hl5 hr3⟩
          refine ⟨_, rfl, .inl ⟨rfl, _, SqL.of (nb_of hB3).1⟩, _, rfl, _, rfl, R, _, rfl, .inl (SqL.of (nb_of hR3).1), q, _, n + 60 + 1, rfl, by rw [List.length_map]; omega, by rw [List.length_map]; omega, hP3, by omega, fun b H4 b0 b1 hP4 f4 => ?_⟩
          have F4 := F3.trans f4
          have hR4 := nb_fr (x := x) f4 _ _ hR3
          have hB4 := nb_fr (x := x) f4 _ _ hB3
          have hr4 : ∀ r ∈ rs, RowOk T (nb q x H4) r.1 r.2 := fun r hr => (hr3 r hr).same (nb_fr f4)
          obtain ⟨bn, rfl⟩ : ∃ bn : Nat, b = bn := ⟨b.toNat, by omega⟩
          refine tNil_to ⟨Bd, _, _, rfl, rfl, (nb_of hB4).1, (by show 0 < sizeLine; decide), ?_⟩
          refine ⟨fun σ H5 => ∃ bs : List Nat, σ = [some (.ref q), some (.ref x), some (.ref L), some (.ref R), some (.ref Bd)] ++ List.replicate 10 Option.none ∧ bs.length ≤ 2 ∧ Pen H5 q (n + 70) ∧ Fr q H H5 ∧ nb q x H5 R = some (.lst (rs.map fun r => V.ref r.1)) ∧ nb q x H5 Bd = some (.lst (bs.map fun b => V.int (b : Nat))) ∧ ∀ r ∈ rs, RowOk T (nb q x H5) r.1 r.2, ?_, ?_⟩
          · have hP5 := pen_updL (o := .lst [V.int (bn : Nat)]) hP hBH F4 hP4
            have F5 := fr_updL (o := .lst [V.int (bn : Nat)]) hBo.2.1 hBH F4
            have nu := nb_upd (H := H4) (o := .lst [V.int (bn : Nat)]) hBo.2.1 hBo.2.2
            have hR5 : nb q x (upd H4 Bd (.lst [V.int (bn : Nat)])) R = some (.lst (rs.map fun r => V.ref r.1)) := by rw [nu, upd_ne nRB]; exact hR4
            have hB5 : nb q x (upd H4 Bd (.lst [V.int (bn : Nat)])) Bd = some (.lst [V.int (bn : Nat)]) := by rw [nu, upd_same]
            have hr5 : ∀ r ∈ rs, RowOk T (nb q x (upd H4 Bd (.lst [V.int (bn : Nat)]))) r.1 r.2 := fun r hr => by rw [nu]; exact rowOk_upd hB4 (hr4 r hr)
            show _
            generalize hG : upd H4 Bd (.lst [V.int (bn : Nat)]) = H5 at hP5 F5 hR5 hB5 hr5
            rw [show upd H4 Bd (.lst (([] : List V) ++ [V.int (bn : Nat)])) = H5 from hG]
            clear hG nu hr4 hB4 hR4 F4 f4 hP4 hr3 hB3 hR3 F3 f3 hP3 hrz hRz hBz
            refine ⟨_, rfl, q, 2, n + 60 + 1 + 1, rfl, by decide, by decide, hP5, by omega, fun a2 H6 a20 a21 hP6 f6 => ⟨rfl, _, rfl, ?_⟩⟩
            have F6 := F5.trans f6
            have hR6 := nb_fr (x := x) f6 _ _ hR5
            have hB6 := nb_fr (x := x) f6 _ _ hB5
            have hr6 : ∀ r ∈ rs, RowOk T (nb q x H6) r.1 r.2 := fun r hr => (hr5 r hr).same (nb_fr f6)
            refine ite2 (fun hc => ?_) (fun hc => ?_)
            rotate_left
            · exact ⟨[bn], rfl, by simp, hP6.mono (by omega), F6, hR6, hB6, hr6⟩
            refine ⟨_, rfl, .inl ⟨rfl, _, SqL.of (nb_of hB6).1⟩, _, rfl, _, rfl, R, _, rfl, .inl (SqL.of (nb_of hR6).1), q, _, n + 60 + 1 + 1 + 1, rfl, by rw [List.length_map]; omega, by rw [List.length_map]; omega, hP6, by omega, fun b2 H7 b20 b21 hP7 f7 => ?_⟩
            have F7 := F6.trans f7
            have hR7 := nb_fr (x := x) f7 _ _ hR6
            have hB7 := nb_fr (x := x) f7 _ _ hB6
            have hr7 : ∀ r ∈ rs, RowOk T (nb q x H7) r.1 r.2 := fun r hr => (hr6 r hr).same (nb_fr f7)
            obtain ⟨bn2, rfl⟩ : ∃ bn : Nat, b2 = bn := ⟨b2.toNat, by omega⟩
            refine tNil_to ⟨Bd, _, _, rfl, rfl, (nb_of hB7).1, (by show 1 < sizeLine; decide), ?_⟩
            have nu := nb_upd (H := H7) (o := .lst ([V.int (bn : Nat)] ++ [V.int (bn2 : Nat)])) hBo.2.1 hBo.2.2
            refine ⟨[bn, bn2], rfl, by simp, (pen_updL hP hBH F7 hP7).mono (by omega), fr_updL hBo.2.1 hBH F7, by rw [nu, upd_ne nRB]; exact hR7, by rw [nu, upd_same]; rfl, fun r hr => by rw [nu]; exact rowOk_upd hB7 (hr7 r hr)⟩
          · rintro σ H5 ⟨bs, rfl, hbl, hP5, F5, hR5, hB5, hr5⟩
            clear hr4 hB4 hR4 F4 f4 hP4 hr3 hB3 hR3 F3 f3 hP3 hrz hRz hBz
            have hRo5 := nb_of hR5
            have hBo5 := nb_of hB5
            refine ⟨_, rfl, R, _, rfl, SqL.of hRo5.1, ?_⟩
            intro D hD
            have nDq : D ≠ q := hP5.neq hD
            have hx5 := F5 _ _ xq hx
            have nDx : D ≠ x := fun z => by rw [z, hx5] at hD; cases hD
            have sD := same_new (o := .lst []) hD
            refine lc_it (walk_enum (K := K) (a := R) (xs := rs.map fun r => V.ref r.1)) (fun t H' => ∃ (rows : List V) (os : List (Option Ent)), H' D = some (.lst rows) ∧ rows.length = t ∧ os.length = t ∧ Pen H' q (n + 70 + t) ∧ Fr q H5 H' ∧ GR T (del H' q) bs rows os)
              ⟨[], [], upd_same, rfl, rfl, hP5.same sD, same_fr sD, fun i v o h1 _ => by simp at h1⟩ (fun i H' _ h => by
                obtain ⟨_, _, _, _, _, _, f, _⟩ := h
                exact SqL.of (f _ _ hRo5.2.1 hRo5.1)) ?_ ?_
            · rintro t v H' G ht ⟨rows, os, eD, l1, l2, hP6, f6, hg⟩ ⟨tz, u1, u2, rfl, htz, rfl, e1, e2⟩
              cases e1
              dsimp only at e2
              rw [List.getElem?_map] at e2
              obtain ⟨r, hr, rfl⟩ := Option.map_eq_some_iff.mp e2
              rw [List.length_map] at ht
              have sz := same_new (o := .tup [V.int (t : Nat), V.ref r.1]) htz
              refine ⟨tz, _, rfl, SqT.of upd_same, rfl, _, _, rfl, _, _, rfl, rfl, rfl, ?_⟩
              have hP7 := hP6.same sz
              have f7 := f6.trans (same_fr sz)
              have eD7 := sz _ _ eD
              have hg7 := hg.same (Same.del sz)
              generalize upd H' tz (.tup [V.int (t : Nat), V.ref r.1]) = G at hP7 f7 eD7 hg7 ⊢
              have hok : RowOk T (nb q x G) r.1 r.2 := (hr5 r (List.mem_of_getElem? hr)).same (nb_fr f7)
              refine ⟨_, rfl, _, rfl, Bd, _, rfl, .inl (SqL.of (f7 _ _ hBo5.2.1 hBo5.1)), rfl, flat_nats bs, _, rfl, ?_⟩
              show (if inV (.int (t : Nat)) (bs.map fun b => V.int (b : Nat)) = true then _ else _)
              rw [inV_nats]
              refine ite2 (fun hc => ?_) (fun hc => ?_)
              · have hc := of_decide_eq_true hc
                refine ⟨_, rfl, _, rfl, q, r.1, n + 70 + t, r.2, rfl, hP7, by omega, hok.same nb_sub, fun v H8 hv hP8 f8 => ?_⟩
                have eD8 := f8 _ _ nDq eD7
                have hg8 := (hg7.same (fr_del f8)).snoc (by rw [l1, l2]) (v := v) (o := Option.none) (.inl ⟨by rw [l1]; exact hc, rfl⟩) hv
                have eD9 : del H8 q D = some (.lst rows) := by rw [del_ne nDq]; exact eD8
                exact ⟨rows, eD8, by rw [l1, sizeLine_eq]; omega, rows ++ [v], os ++ [Option.none], upd_same, by rw [List.length_append, l1]; rfl, by rw [List.length_append, l2]; rfl, pen_updL hP5 hD (f7.trans f8) hP8, fr_updL nDq hD (f7.trans f8), by rw [del_upd nDq]; exact GR.upd eD9 hg8⟩
              · have hc : t ∉ bs := fun z => hc (decide_eq_true z)
                have hok2 : RowOk T (del G q) r.1 r.2 := hok.same del_sub
                have hg8 := hg7.snoc (by rw [l1, l2]) (v := .ref r.1) (o := some r.2) (.inr ⟨by rw [l1]; exact hc, r.1, r.2, rfl, rfl, hok2⟩) hok2.row
                have eD9 : del G q D = some (.lst rows) := by rw [del_ne nDq]; exact eD7
                exact ⟨_, rfl, rows, eD7, by rw [l1, sizeLine_eq]; omega, rows ++ [.ref r.1], os ++ [some r.2], upd_same, by rw [List.length_append, l1]; rfl, by rw [List.length_append, l2]; rfl, (pen_updL hP5 hD f7 hP7).mono (by omega), fr_updL nDq hD f7, by rw [del_upd nDq]; exact GR.upd eD9 hg8⟩
            · rintro H' ⟨rows, os, eD, l1, l2, hP6, f6, hg⟩
              rw [List.length_map] at l1 l2 hP6
              have hx6 := f6 _ _ xq hx5
              have hxd : del H' q x = some (.ins T.a_Shelf dx (shFs (.ref d) (.ref t) (.ref tp) (.ref ta))) := by rw [del_ne xq]; exact hx6
              have hB6 := nb_fr (x := x) f6 _ _ hB5
              refine ⟨D, rows, os, bs, _, _, _, rfl, hP6.mono (by omega), F5.trans f6, ⟨nb_at eD nDq nDx, hB6, by rw [l1, l2], by omega, fun i v o h1 h2 => ?_⟩⟩
              obtain ⟨g1, g2⟩ := hg i v o h1 h2
              refine ⟨?_, rowV_delS hxd g2⟩
              rcases g1 with g | ⟨g3, r, e, g4, g5, g6⟩
              · exact .inl g
              · refine .inr ⟨g3, r, e, g4, g5, ?_⟩
                obtain ⟨y, k1, k2⟩ := g6.at_
                exact ⟨⟨y, del_at hxd k1 (fun z => by cases z), whE_delS hxd k2⟩, g6.pa, g6.pr, g6.nm⟩
      · rintro σ H2 ⟨R2, rows, os, bs, x5, x6, x7, rfl, hP2, f2, hRo2⟩
        have hS2 := ShAt.fr hP f2 hS
        refine ⟨_, rfl, x, es, past, ahead, rfl, hS2, fun l st H3 s3 hl3 hst hSt => ?_⟩
        have hS3 := hS2.same s3
        have hP3 := hP2.same s3
        have f3 := f2.trans (same_fr s3)
        have hRo3 := hRo2.same (nb_same s3)
        obtain ⟨dx3, d3, t3, tp3, ta3, hx3, hI3⟩ := hS3.fld
        have nlq : l ≠ q := hP2.neq hl3
        refine ⟨_, rfl, x, T.a_Shelf, dx3, _, rfl, hx3, T.scls, T.pr_undo, x, es, past, ahead, rfl, hS3, ?_⟩
        refine ⟨_, rfl, x, T.a_Shelf, dx3, _, rfl, hx3, T.scls, T.pr_redo, x, es, past, ahead, rfl, hS3, ?_⟩
        obtain ⟨kvs3, _, _, hnd, hle⟩ := hI3.di
        have toH : ∀ {H : Hp}, Same (nb q x H) H := nb_sub
        refine tNil_to ⟨_, _, _, rfl, _, rfl, _, rfl, _, rfl, l, R2, Bd, st, es, rows, os, bs, rfl, hSt, hst, hle, hnd, SqL.of (toH _ _ hRo3.r), hRo3.len, by have := hRo3.l5; omega, SqL.of (toH _ _ hRo3.b), fun i v o h1 h2 => (hRo3.good i v o h1 h2).1.same toH, fun H4 s4 => ?_⟩
        refine ⟨_, _, rfl, ?_⟩
        have hS4 := hS3.same s4
        have hP4 := hP3.same s4
        have f4 := f3.trans (same_fr s4)
        have hRo4 := hRo3.same (nb_same s4)
        have hx4 := s4 _ _ hx3
        have hSt4 := stAt_nb hP4 hx4 nlq (hSt.same s4)
        clear hS3 hP3 f3 hRo3 hS2 hP2 f2 hRo2 hI3
        have hRH4 := hRo4.same (toH (H := H4))
        refine ⟨fun σ H5 => ∃ told : V, σ = [some (.ref q), some (.ref x), some (.ref L), some (.ref R2), some (.ref Bd), x5, x6, x7, some (.ref l), some (.int (past.length : Nat)), some (.int (ahead.length : Nat)), some (firstV (runR 0 es os)), some told, Option.none, Option.none] ∧ Pen H5 q (n + 80) ∧ Same (nb q x H4) (nb q x H5) ∧ ToldAt T H5 x es past ahead told (runR 0 es os), ?_, ?_⟩
        · refine ⟨_, rfl, _, rfl, x, R2, es, past, ahead, os, rows, rfl, hS4, by omega, SqL.of (toH _ _ hRo4.r), hRo4.l5, hRH4.paired, fun i hi => ?_, fun es' he H5 b5 hS5 => ?_⟩
          · intro dx5 H5 s5 hn5 h5
            refine ⟨true, B.exD, fun _ a ha => ?_, fun z => nomatch z⟩
            refine ⟨_, rfl, T.badd.C, dx5, _, _, rfl, rfl, rfl, h5, B.eD, T.badd.no, rfl, ?_⟩
            refine ⟨_, rfl, T.badd.C, dx5, _, .ref T.R, .ref T.R, true, rfl, rfl, rfl, h5, B.eD, fun u hu => hu, B.kR, ?_⟩
            refine ⟨_, rfl, T.badd.C, dx5, _, .ty "ValueError", .type "ValueError", true, rfl, rfl, rfl, h5, B.eD, fun u hu => hu, B.kV, ?_⟩
            refine ⟨_, rfl, T.badd.C, dx5, _, .ref T.bads.C, .ref T.bads.C, false, rfl, rfl, rfl, h5, B.eD, fun u hu => hu, B.kS, ?_⟩
            refine tNil_to ⟨(by show 5 ≤ sizeLine; decide), fun tt htt => ?_⟩
            have st := same_new (o := .tup [.str "BADDEED", .int (i : Nat), .bl true, .bl true, .bl false]) htt
            have S := s5.trans st
            refine ⟨.ref tt, rfl, hP4.same S, nb_same S, ?_⟩
            rw [hi]
            exact ⟨hS4.same S, tt, rfl, upd_same⟩
          · refine ⟨.non, rfl, hP4.but hx4 b5, nb_but b5, ?_⟩
            rw [he]
            exact ⟨rfl, hS5⟩
        · rintro σ H5 ⟨told, rfl, hP5, s45, hTo⟩
          have hSt5 : StAt (nb q x H5) l st := hSt4.same s45
          have hRo5 := hRo4.same s45
          have sH5 : Same (nb q x H) (nb q x H5) := (nb_fr f4).trans s45
          cases hrun : runR 0 es os with
          | error i =>
            rw [hrun] at hTo
            obtain ⟨hS5, tt, rfl, htt⟩ := hTo
            have hi : i < 6 := by
              have z := (run_lt hrun).2
              have := hRo4.l5
              have := hRo4.len
              omega
            obtain ⟨w1, w2, w3⟩ := badW_ok i hi
            have hsz : (badW i).shown.length ≤ sizeLine := by rw [sizeLine_eq]; omega
            refine ⟨_, rfl, rfl, _, rfl, if_true_of (by show (!decide (V.int (i : Nat) = V.non)) = true; rw [decide_eq_false fun z => by cases z]; rfl) ?_⟩
            refine ⟨_, rfl, .ref tt, badW i, rfl, .dp (.tup (SqT.of htt) (.cons (.str _) (.cons (.int _) (.cons (.bl _) (.cons (.bl _) (.cons (.bl _) .nil)))))), w1, w2, .inr hsz, ?_⟩
            refine ⟨_, rfl, (by show 5 ≤ sizeLine; decide), fun tp htp => ?_⟩
            have sT := same_new (o := .tup [.str "BADDEED", .int (i : Nat), .bl true, .bl true, .bl false]) htp
            refine tNil_to ⟨.ref tp, badW i, rfl, .dp (.tup (SqT.of upd_same) (.cons (.str _) (.cons (.int _) (.cons (.bl _) (.cons (.bl _) (.cons (.bl _) .nil)))))), w1, w2, .inr hsz, ?_⟩
            generalize (badW i).shown = zz at hsz ⊢
            refine ⟨rfl, _, rfl, if_false_of (by rw [decide_eq_true rfl]; rfl) ?_⟩
            have hS6 := hS5.same sT
            have hP6 := hP5.same sT
            have hSt6 := (hSt5.same nb_sub).same sT
            refine ⟨_, rfl, x, es, past, ahead, rfl, hS6, fun l2 st2 H7 s7 hl7 hst2 hSt2 => ?_⟩
            obtain rfl := hst2.uniq hst
            have ok := ShAt.rows hS6 hst2
            have hS7 := hS6.same s7
            have hP7 := hP6.same s7
            have hSt7 := hSt6.same s7
            obtain ⟨dx7, d7, t7, tp7, ta7, hx7, _⟩ := hS7.fld
            refine ⟨_, rfl, stD st2, stD st2, hSt2.dp, hSt7.dp, ok.2, ok.2, ?_⟩
            rw [SeqAt.eqv_refl _ ok.1]
            refine ⟨_, rfl, iteT ?_⟩
            refine ⟨_, rfl, x, T.a_Shelf, dx7, _, rfl, hx7, T.scls, T.pr_undo, x, es, past, ahead, rfl, hS7, ?_⟩
            refine ⟨_, rfl, x, T.a_Shelf, dx7, _, rfl, hx7, T.scls, T.pr_redo, x, es, past, ahead, rfl, hS7, tNil_to ⟨(by show 2 ≤ sizeLine; decide), fun u1 hu1 => ?_⟩⟩
            have su1 := same_new (o := .tup [.int (past.length : Nat), .int (ahead.length : Nat)]) hu1
            refine ⟨_, rfl, _, rfl, (by show 2 ≤ sizeLine; decide), fun u2 hu2 => ?_⟩
            have su2 := same_new (o := .tup [.int (past.length : Nat), .int (ahead.length : Nat)]) hu2
            refine ⟨_, _, pair_dp (su2 _ _ upd_same), pair_dp upd_same, (pair_ok _ _).2, (pair_ok _ _).2, ?_⟩
            rw [SeqAt.eqv_refl _ (pair_ok _ _).1]
            exact k _ es past ahead ((hP7.same (su1.trans su2)).mono (by omega)) (hS7.same (su1.trans su2)) (by omega) (by omega) (sH5.trans (nb_same (((sT.trans s7).trans su1).trans su2)))
          | ok es' =>
            rw [hrun] at hTo
            obtain ⟨rfl, hS5⟩ := hTo
            refine ⟨_, rfl, rfl, _, rfl, if_false_of (by show (!decide (V.non = V.non)) = false; rw [decide_eq_true rfl]; rfl) ?_⟩
            refine ⟨_, rfl, rfl, _, rfl, if_false_of (by show (!decide (V.non = V.non)) = false; rw [decide_eq_true rfl]; rfl) ?_⟩
            obtain ⟨dx5, d5, t5, tp5, ta5, hx5, _⟩ := hS5.fld
            have e1 : (((past ++ [es]).length : Nat) : Int) = (past.length : Int) + 1 := by
              rw [List.length_append, List.length_singleton]
              omega
            refine ⟨_, rfl, x, T.a_Shelf, dx5, _, rfl, hx5, T.scls, T.pr_undo, x, es', past ++ [es], [], rfl, hS5, ?_⟩
            refine ⟨_, rfl, x, T.a_Shelf, dx5, _, rfl, hx5, T.scls, T.pr_redo, x, es', past ++ [es], [], rfl, hS5, tNil_to ⟨(by show 2 ≤ sizeLine; decide), fun u1 hu1 => ?_⟩⟩
            have su1 := same_new (o := .tup [.int ((past ++ [es]).length : Nat), .int (([] : List (List Ent)).length : Nat)]) hu1
            refine ⟨_, rfl, _, _, rfl, rfl, (by show 2 ≤ sizeLine; decide), fun u2 hu2 => ?_⟩
            have su2 := same_new (o := .tup [.int ((past.length : Nat) + 1), .int 0]) hu2
            refine ⟨_, _, pair_dp (su2 _ _ upd_same), pair_dp upd_same, (pair_ok _ _).2, (pair_ok _ _).2, ?_⟩
            rw [e1]
            dsimp only
            refine ⟨_, rfl, if_false_of (by show (!PyData.eqv (.tuple [.int ((past.length : Int) + 1), .int 0]) (.tuple [.int ((past.length : Int) + 1), .int 0])) = false; rw [SeqAt.eqv_refl _ (pair_ok _ _).1]; rfl) ?_⟩
            have S6 := su1.trans su2
            have hS6 := hS5.same S6
            have hP6 := hP5.same S6
            have hSt6 := (hSt5.same nb_sub).same S6
            have hR6 := (hRo5.same nb_sub).same S6
            have sH6 := sH5.trans (nb_same S6)
            rw [e1] at S6 hS6 hP6 hSt6 hR6 sH6
            generalize upd (upd H5 u1 _) u2 _ = H6 at S6 hS6 hP6 hSt6 hR6 sH6 ⊢
            obtain ⟨kvs6, _, _, _, _⟩ := (hS6.fld.choose_spec.choose_spec.choose_spec.choose_spec.choose_spec.2).di
            refine ⟨_, rfl, _, rfl, R2, rfl, ⟨_, SqL.of hR6.r⟩, for_list (K := K) (a := R2) (xs := rows) (fun i σ G => ∃ (lf : Addr) (stf : List Row) (ei : List Ent) (y7 : Option V), σ = [some (.ref q), some (.ref x), some (.ref L), some (.ref R2), some (.ref Bd), x5, x6, y7, some (.ref l), some (.int (past.length : Nat)), some (.int (ahead.length : Nat)), some (firstV (Except.ok es')), some .non, Option.none, some (.ref lf)] ∧ Same H6 G ∧ StAt G lf stf ∧ IsSt ei stf ∧ ei.length ≤ 8 ∧ (ei.map (·.n)).Nodup ∧ runR 0 es os = runR i ei (os.drop i))
              ⟨l, st, es, _, rfl, fun _ _ z => z, hSt6, hst, hle, hnd, rfl⟩ (fun i σ G _ h => by
                obtain ⟨_, _, _, _, _, sG, _⟩ := h
                exact SqL.of (sG _ _ hR6.r)) ?_ ?_⟩
            · rintro i v σ G hv ⟨lf, stf, ei, y7, rfl, sG, hf, hIf, hl8, hnd2, hrun2⟩
              have hil : i < os.length := by
                have := (List.getElem?_eq_some_iff.mp hv).1
                have := hR6.len
                omega
              obtain ⟨o, ho⟩ : ∃ o, os[i]? = some o := ⟨os[i], List.getElem?_eq_getElem hil⟩
              have hdr : os.drop i = o :: os.drop (i + 1) := by
                rw [List.drop_eq_getElem_cons hil]
                rw [List.getElem?_eq_getElem hil] at ho
                rw [Option.some.inj ho]
              rw [hdr] at hrun2
              have hok := hrun2.symm.trans hrun
              obtain ⟨e, rfl, hfu⟩ : ∃ e, o = some e ∧ fullE ei e = false := by
                cases o with
                | none => cases hok
                | some e =>
                  refine ⟨e, rfl, ?_⟩
                  cases qf : fullE ei e with
                  | false => rfl
                  | true =>
                    have z : (if fullE ei e = true then Except.error i else runR (i + 1) (putE ei e) (os.drop (i + 1))) = Except.ok es' := hok
                    rw [if_pos qf] at z
                    cases z
              obtain ⟨r, hvr, hRk⟩ : ∃ r, v = .ref r ∧ RowOk T H6 r e := by
                rcases (hR6.good i v _ hv ho).1 with ⟨_, z⟩ | ⟨_, r, e', z1, z2, z3⟩
                · cases z
                · cases z2
                  exact ⟨r, z1, z3⟩
              subst hvr
              refine ⟨_, rfl, _, rfl, lf, r, stf, ei, e, rfl, hf, hIf, hl8, hnd2, hRk.same sG, fun l' st' G' s' _ hI' hS' => ?_⟩
              have hrun3 : runR 0 es os = runR (i + 1) (putE ei e) (os.drop (i + 1)) := hrun2.trans (by
                show (if fullE ei e = true then Except.error i else runR (i + 1) (putE ei e) (os.drop (i + 1))) = _
                rw [if_neg (by rw [hfu]; exact Bool.false_ne_true)])
              refine ⟨l', st', putE ei e, _, rfl, sG.trans s', hS', hI', ?_, putE_nodup hnd2, hrun3⟩
              rw [putE_len]
              unfold fullE at hfu
              by_cases qh : hasE ei e.n = true
              · rw [if_pos qh]; exact hl8
              · rw [if_neg qh]
                rw [Bool.not_eq_true] at qh
                rw [qh] at hfu
                have : ei.length ≠ 8 := fun z => by rw [decide_eq_true z] at hfu; cases hfu
                omega
            · rintro σ G ⟨lf, stf, ei, y7, rfl, sG, hf, hIf, hl8, hnd2, hrun2⟩
              have hlen := hR6.len
              rw [List.drop_eq_nil_of_le (by omega)] at hrun2
              obtain rfl : ei = es' := by
                have z := hrun2.symm.trans hrun
                have z : (Except.ok ei : Except Nat (List Ent)) = Except.ok es' := z
                injection z
              have hS7 := hS6.same sG
              have hP7 := hP6.same sG
              have hSt8 := hSt6.same sG
              have sH7 := sH6.trans (nb_same sG)
              refine ⟨_, rfl, x, ei, past ++ [es], [], rfl, hS7, fun l3 st3 H8 s8 hl3 hst3 hSt3 => ?_⟩
              obtain rfl := hst3.uniq hIf
              have ok3 := ShAt.rows hS7 hst3
              refine ⟨_, rfl, stD st3, stD st3, hSt3.dp, (hf.same s8).dp, ok3.2, ok3.2, _, rfl, if_false_of (by rw [SeqAt.eqv_refl _ ok3.1]; rfl) ?_⟩
              have hS8 := hS7.same s8
              have hP8 := hP7.same s8
              have hSt9 := hSt8.same s8
              have sH8 := sH7.trans (nb_same s8)
              refine ⟨_, rfl, q, 3, n + 80, rfl, by decide, by decide, hP8, by omega, fun a H9 a0 a1 hP9 f9 => ⟨rfl, _, rfl, ?_⟩⟩
              have hS9 := ShAt.fr hP8 f9 hS8
              have sH9 := sH8.trans (nb_fr f9)
              obtain ⟨dx9, d9, t9, tp9, ta9, hx9, _⟩ := hS9.fld
              have hx8 := hS8.fld.choose_spec.choose_spec.choose_spec.choose_spec.choose_spec.1
              have hSt10 : StAt H9 l st := ((stAt_nb hP8 hx8 nlq hSt9).same (nb_fr f9)).same nb_sub
              refine ite2 (fun hc => ?_) (fun hc => ?_)
              · refine ⟨_, rfl, x, dx9, _, rfl, hx9, rfl, x, ei, es, past, [], rfl, hS9, by simp, by omega, fun H10 b10 hS10 => ?_⟩
                have hP10 := hP9.but hx9 b10
                have sH10 := sH9.trans (nb_but b10)
                have hSt11 : StAt H10 l st := ((stAt_nb hP9 hx9 nlq hSt10).same (nb_but b10)).same nb_sub
                refine ⟨_, rfl, x, es, past, ([] ++ [ei]), rfl, hS10, fun l2 st2 H7 s7 hl7 hst2 hSt2 => ?_⟩
                obtain rfl := hst2.uniq hst
                have ok := ShAt.rows hS10 hst2
                have hS7 := hS10.same s7
                have hP7 := hP10.same s7
                have hSt7 := hSt11.same s7
                obtain ⟨dx7, d7, t7, tp7, ta7, hx7, _⟩ := hS7.fld
                refine ⟨_, rfl, stD st2, stD st2, hSt2.dp, hSt7.dp, ok.2, ok.2, ?_⟩
                rw [SeqAt.eqv_refl _ ok.1]
                refine ⟨_, rfl, iteT ?_⟩
                refine ⟨_, rfl, x, T.a_Shelf, dx7, _, rfl, hx7, T.scls, T.pr_undo, x, es, past, ([] ++ [ei]), rfl, hS7, ?_⟩
                refine ⟨_, rfl, x, T.a_Shelf, dx7, _, rfl, hx7, T.scls, T.pr_redo, x, es, past, ([] ++ [ei]), rfl, hS7, tNil_to ⟨(by show 2 ≤ sizeLine; decide), fun u1 hu1 => ?_⟩⟩
                have su1 := same_new (o := .tup [.int (past.length : Nat), .int (([] ++ [ei] : List (List Ent)).length : Nat)]) hu1
                refine ⟨_, rfl, (by show 2 ≤ sizeLine; decide), fun u2 hu2 => ?_⟩
                have su2 := same_new (o := .tup [.int (past.length : Nat), .int (([] ++ [ei] : List (List Ent)).length : Nat)]) hu2
                refine ⟨_, _, pair_dp (su2 _ _ upd_same), pair_dp upd_same, (pair_ok _ _).2, (pair_ok _ _).2, ?_⟩
                rw [show ((([] ++ [ei] : List (List Ent)).length : Nat) : Int) = 1 from rfl]
                rw [SeqAt.eqv_refl _ (pair_ok _ _).1]
                exact k _ es past ([] ++ [ei]) ((hP7.same (su1.trans su2)).mono (by omega)) (hS7.same (su1.trans su2)) (by omega) (by simp) (sH10.trans (nb_same ((s7.trans su1).trans su2)))
              · exact k _ ei (past ++ [es]) [] (hP9.mono (by omega)) hS9 (by rw [List.length_append]; exact Nat.le_refl _) (by simp) sH9

section
variable {X : Cx} {CX : CXT} {k : Nat} {g : Addr} {sp : Sp} {o e : Expr} {es : List Expr} {m : Str} {ta : TE} {t : TA} {pos apos : Pos} {E : L2.St → XK}
/-- o.m(e, ..), m told of its arguments as they are passed, what it may let out as the names stand -/
def tMethRS (C : Addr) (m : Str) (sp : Sp) (E : L2.St → XK) (ta : TE) (t : TA) : TE := fun σ H Q => ta σ H fun x H1 => ∃ a dx fs, x = .ref a ∧ H1 a = some (.ins C dx fs) ∧ fs.lookup m = Option.none ∧ t σ H1 fun vs H2 => sp (x :: vs) H2 Q (E σ)
theorem pe_methRS {C : Addr} {pl : Sem Bool} (he : PE X o ta) (c : Cls X.K C) (hm : Meth X.K C m g) (F : FnR X.prog X.w X.K X.mg X.base CX k g sp) (hr : Room k X.A) (hx : ∀ σ, PassesAt CX X σ (E σ)) (ha : PA X (e :: es) t)
    (hst : starEach (e :: es) X.env = (false, eval e X.env) :: starEach es X.env := by rfl) (hpl : (backTo pos (starEach es X.env)).any (·.1) = false := by rfl)
    (ht : eval (.Call (.Attribute o m apos) (e :: es) [] pos) X.env = (eval o X.env >>= fun ov => standAt apos.atName >>= fun _ => holding [ov] (getMethod ov m pl) >>= fun z => callWith pos z.1 z.2 (backTo pos (starEach (e :: es) X.env)) (backToKw pos (keywordEach [] X.env))) := by rfl) :
    PE X (.Call (.Attribute o m apos) (e :: es) [] pos) (tMethRS C m sp E ta t) := by
  refine ⟨fun pins s σ H Q I h => PySem.W.methodCall_KW (pl := pl) (thn (he.run pins s σ H _ I h) fun u s1 hu => ?_) ht⟩
  obtain ⟨x, H1, I1, rx, a, dx, fs, rfl, ea, l, q⟩ := hu
  obtain rfl : u = Value.ref a := rx
  refine getmeth_ok I1 ea c hm l (PySem.W.callWith_K (first := [.ref a]) (h₀ := X.base) I.ok.mod.kin hm.kp (thn (ha.run pos pins s1 σ H1 _ I1 q) fun us s2 z => ?_) hst hpl)
  obtain ⟨vs, H2, I2, r, q2⟩ := z
  refine ⟨I2.kIn, wpAny_call (codeAny_mono (F X.A X.stack s2 H2 (.ref a :: us) (.ref a :: vs) Q (E σ) hr I2.env0 (.cons rfl r) q2) fun r s' hq => ?_)⟩
  match r, hq with
  | .error e, hq => exact hx σ pins H2 s2 e s' I2 hq
  | .ok (.ret u), hq => exact I2.after hq
end
def spLaw (K : PySem.W.Frag) : Sp := fun vs H Q _ => ∃ (a : Addr) (ns : List Int), vs = [.ref a] ∧ SqL K H a (ns.map V.int) ∧ ns.length ≤ 63 ∧ ∀ H', Q (.bl true) H'
/-- a row that is written -/
theorem arg_row {T : Txt K mg} (W : Whl T) {σ : L2.St} {H : Hp} {Q : VK} (nm : Str) (p pr : Int) (hn : nameB (.str nm) = true) (hp : 2 ≤ p ∧ p ≤ 1000000000000) (hpr : 0 ≤ pr ∧ pr ≤ 1000000000000)
    (k : ∀ (r : Addr) (H' : Hp), Same H H' → H r = Option.none → RowOk T H' r ⟨nm, false, p, 0, 0, pr⟩ → Q (.ref r) H') :
    tTup (tCons (tC (.str nm)) (tCons (tMkR T.a_Exact (fun vs H Q E => spOneInit K T.bad.C T.a_Exact T.a_Wheel_init (vs ++ []) H Q E) E0 (tCons (tC (.int p)) tNil)) (tCons (tC (.int pr)) tNil))) σ H Q := by
  intro y dy hy hdy _
  refine okX T W hy hdy hp fun H1 s1 w1 => ⟨rfl, ?_⟩
  refine ⟨(by show 3 ≤ sizeLine; decide), fun r hr => ?_⟩
  have s2 := same_new (o := .tup [.str nm, .ref y, .int pr]) hr
  exact k r _ (s1.trans s2) (none_up s1 hr) ⟨⟨y, upd_same, _, _, W.X, w1.same s2⟩, ⟨hp, ⟨Int.le_refl _, by show (0 : Int) ≤ 1000000000000; decide⟩, ⟨Int.le_refl _, by show (0 : Int) ≤ 1000000000000; decide⟩, fun z => by cases z⟩, hpr, hn⟩
def xE (n : Str) (p pr : Int) : Ent := ⟨n, false, p, 0, 0, pr⟩
def full1 : List Ent := [xE "a" 7 1, xE "b" 7 1, xE "c" 7 1, xE "d" 7 1, xE "e" 7 1]
def full2 : List Ent := [xE "a" 9 2, xE "b" 7 1, xE "c" 7 1, xE "d" 7 1, xE "e" 7 1, xE "f" 7 1, xE "g" 7 1, xE "h" 7 1]
theorem run1 : runR 0 [] [some (xE "a" 7 1), some (xE "b" 7 1), some (xE "c" 7 1), some (xE "d" 7 1), some (xE "e" 7 1)] = .ok full1 := rfl
theorem run2 : runR 0 full1 [some (xE "f" 7 1), some (xE "g" 7 1), some (xE "h" 7 1), some (xE "a" 9 2)] = .ok full2 := rfl
theorem run3 : runR 0 full2 [some (xE "h" 8 3), some (xE "i" 7 1), Option.none] = .error 1 := rfl
theorem full2_nd : (full2.map (·.n)).Nodup := by decide +kernel
theorem tCons_to {te : TE} {ta : TA} {σ : L2.St} {H : Hp} {Q : List V → Hp → Prop} (h : te σ H fun v H1 => ta σ H1 fun vs H2 => Q (v :: vs) H2) : tCons te ta σ H Q := h
theorem p12 {p : Int} (h : 2 ≤ p ∧ p ≤ 9) : 2 ≤ p ∧ p ≤ 1000000000000 := ⟨h.1, by omega⟩
theorem q12 {p : Int} (h : 0 ≤ p ∧ p ≤ 9) : 0 ≤ p ∧ p ≤ 1000000000000 := ⟨h.1, by omega⟩
theorem newS {H : Hp} {x dx : Addr} {o : HO} (hx : H x = Option.none) (hdx : H dx = Option.none) (ne : dx ≠ x) : Same H (upd (upd H dx (.own x)) x o) := (same_new hdx).trans (same_new (by rw [upd_ne (Ne.symm ne)]; exact hx))
theorem full2_a : ∀ e ∈ full2, e.n = "a" → e.pr = 2 := by decide +kernel
theorem full2_h : ∀ e ∈ full2, e.n = "h" → e.pr = 1 := by decide +kernel
theorem tC_to {v : V} {σ : L2.St} {H : Hp} {Q : VK} (h : Q v H) : tC v σ H Q := h
theorem ok_law (HP : PrF lawFile P) (T : Txt K mg) (W : Whl T) (B : Caught T) : FnG P w K mg base CX0 10 T.a_law (spLaw K) := by
  refine FnG.mk0 T.F_law sc_law (b_law T) (fun vs H Q E h => ?_) (fun cdv A outer s H vs Q E gu hr h => ?_)
  · obtain ⟨a, ns, rfl, _⟩ := h; rfl
  · obtain ⟨a, ns, rfl, hS, hl, k⟩ := h
    refine ⟨_, pss_cons (ps_set (i := 1) sc_law.nd rfl (Or.inr rfl) (pe_call (ok_pen T) (hr.mono (by decide)) rfl T.m_pen T.F_pen.kp (b_pen T) .nil pass0 (pa_cons (pv 0) (pa_nil))))
      (pss_cons (ps_for PassesOwn.never rfl (pi_range1 (by rfl) T.n_range (pa_cons (pe_int) (pa_nil))) (pg_name (i := 2) sc_law.nd rfl (Or.inl rfl)) (pss_cons (ps_par (i := 3) (j := 4) (by rfl) sc_law.nd rfl rfl (by decide) rfl rfl (pa_cons (pe_make0 T.smk (ok_Shelf_init T) (hr.mono (by decide)) rfl T.m_Shelf (b_Shelf_init T) .nil pass0) (pa_cons (pe_op op_cat (pe_lst (pa_cons (pe_str) (pa_cons (pe_str) (pa_nil)))) (pe_lc (own := [("_law_turn", 5)]) (g := gName 5) (tt := tYes) rfl sc_law.nd (pi_range1 (by rfl) T.n_range (pa_cons (pe_int) (pa_nil))) (blkOk_by (own := [("_law_turn", 5)]) (N := ["_law_script", "_law_pen_here", "_law_lap", "_law_shelf", "_law_names", "_law_turn", "_law_full", "e"]) (sc := defScope s_law) (by decide +kernel)) (fun _ _ _ _ _ => pg_name (i := 5) sc_law.nd rfl (Or.inl rfl)) (fun _ _ _ _ _ => pts_nil) (fun _ _ _ _ _ => pe_call (ok_name T) (hr.mono (by decide)) rfl T.m_name T.F_name.kp (b_name T) .nil pass0 (pa_cons (pv 1) (pa_nil))))) (pa_nil))) (by rfl))
      (pss_one (ps_for PassesOwn.never rfl (pi_range1 (by rfl) T.n_range (pa_cons (pe_int) (pa_nil))) (pg_name (i := 5) sc_law.nd rfl (Or.inl rfl)) (pss_one (ps_if (pt_not (pt_val (pe_callG gu (ok_right HP T W B) (hr.mono (by decide)) T.F_right.kp rfl T.m_right pass0 (pa_cons (pv 1) (pa_cons (pv 3) (pa_cons (pv 4) (pa_nil))))))) (pss_one (ps_ret (pe_bl))) (pss_nil)))))))
      (pss_cons (ps_set (i := 6) sc_law.nd rfl (Or.inl rfl) (pe_make0 T.smk (ok_Shelf_init T) (hr.mono (by decide)) rfl T.m_Shelf (b_Shelf_init T) .nil pass0))
      (pss_cons (ps_expr (pe_methR (pv 6) T.scls T.s_stock (ok_Shelf_stock HP T W B) (hr.mono (by decide)) passL (pa_cons (pe_tup (pa_cons (pe_str) (pa_cons (pe_mkR W.X.mkr ((ok_Exact_init HP T).raw (b_Exact_init T) .nil) (hr.mono (by decide)) passL rfl T.m_Exact (pa_cons (pe_int) (pa_nil))) (pa_cons (pe_int) (pa_nil))))) (pa_cons (pe_tup (pa_cons (pe_str) (pa_cons (pe_mkR W.X.mkr ((ok_Exact_init HP T).raw (b_Exact_init T) .nil) (hr.mono (by decide)) passL rfl T.m_Exact (pa_cons (pe_int) (pa_nil))) (pa_cons (pe_int) (pa_nil))))) (pa_cons (pe_tup (pa_cons (pe_str) (pa_cons (pe_mkR W.X.mkr ((ok_Exact_init HP T).raw (b_Exact_init T) .nil) (hr.mono (by decide)) passL rfl T.m_Exact (pa_cons (pe_int) (pa_nil))) (pa_cons (pe_int) (pa_nil))))) (pa_cons (pe_tup (pa_cons (pe_str) (pa_cons (pe_mkR W.X.mkr ((ok_Exact_init HP T).raw (b_Exact_init T) .nil) (hr.mono (by decide)) passL rfl T.m_Exact (pa_cons (pe_int) (pa_nil))) (pa_cons (pe_int) (pa_nil))))) (pa_cons (pe_tup (pa_cons (pe_str) (pa_cons (pe_mkR W.X.mkr ((ok_Exact_init HP T).raw (b_Exact_init T) .nil) (hr.mono (by decide)) passL rfl T.m_Exact (pa_cons (pe_int) (pa_nil))) (pa_cons (pe_int) (pa_nil))))) (pa_nil))))))))
      (pss_cons (ps_expr (pe_methR (pv 6) T.scls T.s_stock (ok_Shelf_stock HP T W B) (hr.mono (by decide)) passL (pa_cons (pe_tup (pa_cons (pe_str) (pa_cons (pe_mkR W.X.mkr ((ok_Exact_init HP T).raw (b_Exact_init T) .nil) (hr.mono (by decide)) passL rfl T.m_Exact (pa_cons (pe_int) (pa_nil))) (pa_cons (pe_int) (pa_nil))))) (pa_cons (pe_tup (pa_cons (pe_str) (pa_cons (pe_mkR W.X.mkr ((ok_Exact_init HP T).raw (b_Exact_init T) .nil) (hr.mono (by decide)) passL rfl T.m_Exact (pa_cons (pe_int) (pa_nil))) (pa_cons (pe_int) (pa_nil))))) (pa_cons (pe_tup (pa_cons (pe_str) (pa_cons (pe_mkR W.X.mkr ((ok_Exact_init HP T).raw (b_Exact_init T) .nil) (hr.mono (by decide)) passL rfl T.m_Exact (pa_cons (pe_int) (pa_nil))) (pa_cons (pe_int) (pa_nil))))) (pa_cons (pe_tup (pa_cons (pe_str) (pa_cons (pe_mkR W.X.mkr ((ok_Exact_init HP T).raw (b_Exact_init T) .nil) (hr.mono (by decide)) passL rfl T.m_Exact (pa_cons (pe_int) (pa_nil))) (pa_cons (pe_int) (pa_nil))))) (pa_nil)))))))
      (pss_cons (ps_try_as (i := 7) (c := .ref T.badd.C) rfl rfl sc_law.nd rfl rfl ⟨rfl, by decide, .inl T.badd.m⟩ takes0 (fun W1 pn xe tk _ => pss_one (ps_expr (pe_methRS (pv 6) T.scls T.s_stock (ok_Shelf_stock HP T W B) (hr.mono (by decide)) (fun σ => passAt tk σ) (pa_cons (pe_tup (pa_cons (pe_str) (pa_cons (pe_mkR W.X.mkr ((ok_Exact_init HP T).raw (b_Exact_init T) .nil) (hr.mono (by decide)) passL rfl T.m_Exact (pa_cons (pe_int) (pa_nil))) (pa_cons (pe_int) (pa_nil))))) (pa_cons (pe_tup (pa_cons (pe_str) (pa_cons (pe_mkR W.X.mkr ((ok_Exact_init HP T).raw (b_Exact_init T) .nil) (hr.mono (by decide)) passL rfl T.m_Exact (pa_cons (pe_int) (pa_nil))) (pa_cons (pe_int) (pa_nil))))) (pa_cons (pe_non) (pa_nil))))))) (fun a oe cls d pn hz hd => pss_one (ps_ret (pe_and (pe_cmpR op_eq (pe_fldP2 K rfl List.mem_cons_self hz hd (pv 7)) (pe_int) (nomark _)) (pe_and (pe_cmpR op_eq (pe_callB (call_lenQ (p := (a, oe)) (okH_len T) (L2H.roomH_mark (hr.mono (by decide)) _) List.mem_cons_self (b_Shelf_len T) T.fi_len T.fn_len) (by rfl) T.n_len (by decide +kernel) (pa_cons (pv 6) pa_nil)) (pe_int) (nomark _)) (pe_and (pe_cmpR op_eq (pe_propQ K rfl (p := (a, oe)) (pv 6) T.p_can_undo (okH_can_undo T) (L2H.roomH_mark (hr.mono (by decide)) _) List.mem_cons_self (b_Shelf_can_undo T) rfl) (pe_int) (nomark _)) (pe_and (pe_cmpR op_eq (pe_ix (ix_tup2 K rfl) (pe_ixQ (p := (a, oe)) (okH_getitem T) (L2H.roomH_mark (hr.mono (by decide)) _) List.mem_cons_self (b_Shelf_getitem T) T.fi_get (fnIn_of T.F_Shelf_getitem) T.fn_get (pv 6) pe_str) pe_int (fun _ _ => rfl)) (pe_int) (nomark _)) (pe_one (pe_cmpR op_eq (pe_ix (ix_tup2 K rfl) (pe_ixQ (p := (a, oe)) (okH_getitem T) (L2H.roomH_mark (hr.mono (by decide)) _) List.mem_cons_self (b_Shelf_getitem T) T.fi_get (fnIn_of T.F_Shelf_getitem) T.fn_get (pv 6) pe_str) pe_int (fun _ _ => rfl)) (pe_int) (nomark _))))))))))
      (pss_one (ps_ret (pe_bl)))))))), ?_⟩
    refine ⟨_, rfl, a, ns, rfl, hS, hl, fun p H1 s1 hP => ?_⟩
    refine ⟨3, rfl, by decide, by decide, for_range (n := 3) (fun i σ H' => ∃ x2 x3 x4 x5 : Option V, σ = [some (.ref a), some (.ref p), x2, x3, x4, x5, Option.none, Option.none] ∧ Pen H' p (700 * i)) ⟨_, _, _, _, rfl, hP⟩ ?_ ?_⟩
    · rintro i σ H2 hi ⟨x2, x3, x4, x5, rfl, hP2⟩
      have hi : i < 3 := hi
      intro x dx hx hdx ne
      refine ⟨x, dx, rfl, upd_same, fun G1 b1 hS1 => ⟨rfl, ?_⟩⟩
      have nxp : x ≠ p := hP2.neq hx
      have hP3 : Pen G1 p (700 * i) := (hP2.same (newS hx hdx ne)).but upd_same b1
      refine ⟨(by show 2 ≤ sizeLine; decide), fun L0 hL0 => ?_⟩
      have sL := same_new (o := .lst [.str "a", .str "b"]) hL0
      have hP4 := hP3.same sL
      have hS4 := hS1.same sL
      have nL0 : L0 ≠ p := hP3.neq hL0
      have eL0 : (upd G1 L0 (.lst [.str "a", .str "b"])) L0 = some (.lst [.str "a", .str "b"]) := upd_same
      generalize upd G1 L0 (.lst [.str "a", .str "b"]) = G2 at hP4 hS4 eL0 ⊢
      refine ⟨8, rfl, by decide, by decide, fun D hD => ?_⟩
      have nD : D ≠ p := hP4.neq hD
      refine lc_range (lo := 0) (n := 8) (fun t H' => ∃ zs : List Str, H' D = some (.lst (zs.map V.str)) ∧ zs.length = t ∧ (∀ z ∈ zs, nameB (.str z) = true) ∧ Pen H' p (700 * i + 5 * t) ∧ Fr p G2 H')
        ⟨[], upd_same, rfl, fun _ h => absurd h List.not_mem_nil, hP4.same (same_new hD), same_fr (same_new hD)⟩ ?_ ?_
      · rintro t H' ht ⟨zs, e1, l1, hz, hP5, f5⟩
        have ht : t < 8 := ht
        refine ⟨rfl, ?_⟩
        refine ⟨_, rfl, p, 700 * i + 5 * t, rfl, hP5, by omega, fun z H'' hz2 hP6 f6 => ?_⟩
        refine ⟨_, f6 _ _ nD e1, by rw [List.length_map, l1, sizeLine_eq]; omega, zs ++ [z], by rw [upd_same, List.map_append]; rfl, by rw [List.length_append, l1]; rfl, fun y hy => ?_, pen_updL hP4 hD (f5.trans f6) hP6, fr_updL nD hD (f5.trans f6)⟩
        rcases List.mem_append.mp hy with hy | hy
        · exact hz y hy
        · rw [List.mem_singleton] at hy
          rw [hy]; exact hz2
      · rintro H' ⟨zs, e1, l1, hz, hP5, f5⟩
        have l1 : zs.length = 8 := l1
        refine ⟨L0, D, _, _, rfl, rfl, f5 _ _ nL0 eL0, e1, by rw [List.length_map, l1, sizeLine_eq]; show 2 + 8 ≤ _; omega, fun L hL => ?_⟩
        refine tNil_to ⟨_, _, rfl, ?_⟩
        have sL2 := same_new (o := .lst ([.str "a", .str "b"] ++ zs.map V.str)) hL
        have hS6 := (ShAt.fr hP4 f5 hS4).same sL2
        have hP6 := hP5.same sL2
        have nL : L ≠ p := hP5.neq hL
        have nLx : L ≠ x := fun z => by
          obtain ⟨dx7, d7, t7, tp7, ta7, hx7, _⟩ := (ShAt.fr hP4 f5 hS4).fld
          rw [← z, hL] at hx7
          cases hx7
        have eL : (upd H' L (.lst ([.str "a", .str "b"] ++ zs.map V.str))) L = some (.lst (("a" :: "b" :: zs : List Str).map V.str)) := upd_same
        have hns : ∀ z ∈ ("a" :: "b" :: zs : List Str), nameB (.str z) = true := fun z h => by
          rcases List.mem_cons.mp h with rfl | h
          · decide +kernel
          · rcases List.mem_cons.mp h with rfl | h
            · decide +kernel
            · exact hz z h
        generalize upd H' L (.lst ([.str "a", .str "b"] ++ zs.map V.str)) = G3 at hS6 hP6 eL ⊢
        refine ⟨6, rfl, by decide, by decide, for_range (n := 6) (fun j σ H' => ∃ (x2 x5 : Option V) (es : List Ent) (past ahead : List (List Ent)), σ = [some (.ref a), some (.ref p), x2, some (.ref x), some (.ref L), x5, Option.none, Option.none] ∧ Pen H' p (700 * i + 40 + 100 * j) ∧ ShAt T H' x es past ahead ∧ past.length ≤ j ∧ ahead.length ≤ j ∧ H' L = some (.lst (("a" :: "b" :: zs : List Str).map V.str)))
          ⟨_, _, [], [], [], rfl, hP6.mono (by omega), hS6, Nat.le_refl _, Nat.le_refl _, eL⟩ ?_ ?_⟩
        · rintro j σ H7 hj ⟨x2, x5, es, past, ahead, rfl, hP7, hS7, lp, la, eL7⟩
          have hj : j < 6 := hj
          exact ⟨_, rfl, _, rfl, _, rfl, p, x, L, 700 * i + 40 + 100 * j, "a" :: "b" :: zs, es, past, ahead, rfl, hP7, by omega, hS7, by omega, by omega, SqL.of eL7, nL, by simp, by simp only [List.length_cons, l1]; omega, hns, fun H8 es' past' ahead' hP8 hS8 l8 l9 sm => ⟨true, rfl, iteF ⟨_, _, es', past', ahead', rfl, hP8.mono (by omega), hS8, by omega, by omega, (nb_of (sm _ _ (nb_at eL7 nL nLx))).1⟩⟩⟩
        · rintro σ H7 ⟨x2, x5, es, past, ahead, rfl, hP7, hS7, lp, la, eL7⟩
          exact ⟨_, _, _, _, rfl, hP7.mono (by omega)⟩
    · rintro σ H2 ⟨x2, x3, x4, x5, rfl, hP2⟩
      clear hP2 hP hS
      intro x dx hx hdx ne
      refine ⟨x, dx, rfl, upd_same, fun G1 b1 hS1 => ⟨rfl, ?_⟩⟩
      obtain ⟨dx1, d1, t1, tp1, ta1, hx1, hI1⟩ := hS1.fld
      refine ⟨_, rfl, x, dx1, _, rfl, hx1, rfl, ?_⟩
      refine tCons_to (arg_row W "a" 7 1 (by decide +kernel) (p12 (by decide)) (q12 (by decide)) fun r1 K1 s1 n1 o1 => ?_)
      refine tCons_to (arg_row W "b" 7 1 (by decide +kernel) (p12 (by decide)) (q12 (by decide)) fun r2 K2 s2 n2 o2 => ?_)
      refine tCons_to (arg_row W "c" 7 1 (by decide +kernel) (p12 (by decide)) (q12 (by decide)) fun r3 K3 s3 n3 o3 => ?_)
      refine tCons_to (arg_row W "d" 7 1 (by decide +kernel) (p12 (by decide)) (q12 (by decide)) fun r4 K4 s4 n4 o4 => ?_)
      refine tCons_to (arg_row W "e" 7 1 (by decide +kernel) (p12 (by decide)) (q12 (by decide)) fun r5 K5 s5 n5 o5 => ?_)
      have S45 := s5
      have S35 := s4.trans S45
      have S25 := s3.trans S35
      have S15 := s2.trans S25
      refine tNil_to ⟨_, _, rfl, (by show 5 ≤ sizeLine; decide), x, [], [], [], [some (xE "a" 7 1), some (xE "b" 7 1), some (xE "c" 7 1), some (xE "d" 7 1), some (xE "e" 7 1)], rfl, hS1.same (s1.trans S15), by decide, .cons (o1.row.same S15) (.cons (o2.row.same S25) (.cons (o3.row.same S35) (.cons (o4.row.same S45) (.cons o5.row .nil)))), fun i h => ?_, fun es' h H3 b3 hS3 => ?_⟩
      · have z := h.symm.trans run1
        cases z
      obtain rfl : es' = full1 := by
        have z := h.symm.trans run1
        have z : (Except.ok es' : Except Nat (List Ent)) = Except.ok full1 := z
        injection z
      clear s1 s2 s3 s4 s5 S45 S35 S25 S15 o1 o2 o3 o4 o5 b3
      obtain ⟨dx3, d3, t3, tp3, ta3, hx3, hI3⟩ := hS3.fld
      refine ⟨_, rfl, x, dx3, _, rfl, hx3, rfl, ?_⟩
      refine tCons_to (arg_row W "f" 7 1 (by decide +kernel) (p12 (by decide)) (q12 (by decide)) fun r1 K1 s1 n1 o1 => ?_)
      refine tCons_to (arg_row W "g" 7 1 (by decide +kernel) (p12 (by decide)) (q12 (by decide)) fun r2 K2 s2 n2 o2 => ?_)
      refine tCons_to (arg_row W "h" 7 1 (by decide +kernel) (p12 (by decide)) (q12 (by decide)) fun r3 K3 s3 n3 o3 => ?_)
      refine tCons_to (arg_row W "a" 9 2 (by decide +kernel) (p12 (by decide)) (q12 (by decide)) fun r4 K4 s4 n4 o4 => ?_)
      have S34 := s4
      have S24 := s3.trans S34
      have S14 := s2.trans S24
      refine tNil_to ⟨_, _, rfl, (by show 4 ≤ sizeLine; decide), x, full1, [[]], [], [some (xE "f" 7 1), some (xE "g" 7 1), some (xE "h" 7 1), some (xE "a" 9 2)], rfl, hS3.same (s1.trans S14), by decide, .cons (o1.row.same S14) (.cons (o2.row.same S24) (.cons (o3.row.same S34) (.cons o4.row .nil))), fun i h => ?_, fun es' h H4 b4 hS4 => ?_⟩
      · have z := h.symm.trans run2
        cases z
      obtain rfl : es' = full2 := by
        have z := h.symm.trans run2
        have z : (Except.ok es' : Except Nat (List Ent)) = Except.ok full2 := z
        injection z
      clear s1 s2 s3 s4 S34 S24 S14 o1 o2 o3 o4 b4 hI3 hx3 hS3 hI1 hx1 hS1
      obtain ⟨dx4, d4, t4, tp4, ta4, hx4, hI4⟩ := hS4.fld
      refine ⟨_, rfl, x, dx4, _, rfl, hx4, rfl, ?_⟩
      refine tCons_to (arg_row W "h" 8 3 (by decide +kernel) (p12 (by decide)) (q12 (by decide)) fun r1 K1 s1 n1 o1 => ?_)
      refine tCons_to (arg_row W "i" 7 1 (by decide +kernel) (p12 (by decide)) (q12 (by decide)) fun r2 K2 s2 n2 o2 => ?_)
      have S12 := s1.trans s2
      have hS5 := hS4.same S12
      refine tCons_to (tC_to (tNil_to ⟨_, _, rfl, (by show 3 ≤ sizeLine; decide), x, full2, [[], full1], [], [some (xE "h" 8 3), some (xE "i" 7 1), Option.none], rfl, hS5, by decide, .cons (o1.row.same s2) (.cons o2.row (.cons (.other .non (by decide)) .nil)), fun i h => ?_, fun es' h H4 b4 hS4 => ?_⟩))
      rotate_left
      · have z := h.symm.trans run3
        cases z
      obtain rfl : i = 1 := by
        have z := h.symm.trans run3
        have z : (Except.error i : Except Nat (List Ent)) = Except.error 1 := z
        injection z
      intro dx5 H5 s5 hn5 h5
      refine ⟨true, B.exD, fun _ ea ha => ?_, fun z => nomatch z⟩
      have hS6 := hS5.same s5
      refine ⟨_, rfl, T.badd.C, dx5, _, _, rfl, rfl, rfl, h5, B.eD, T.badd.no, rfl, ?_⟩
      refine ⟨rfl, _, rfl, if_true_of (by rfl) ?_⟩
      obtain ⟨dx6, d6, t6, tp6, ta6, hx6, hI6⟩ := hS6.fld
      refine ⟨_, rfl, x, dx6, _, rfl, hx6, x, full2, _, _, rfl, hS6, 8, rfl, by decide, by decide, rfl, _, rfl, if_true_of (by rfl) ?_⟩
      refine ⟨_, rfl, x, T.a_Shelf, dx6, _, rfl, hx6, T.scls, T.pr_undo, x, full2, _, _, rfl, hS6, rfl, _, rfl, if_true_of (by rfl) ?_⟩
      refine ⟨_, rfl, x, dx6, _, rfl, hx6, x, "a", full2, _, _, rfl, hS6, by decide, by decide +kernel, fun e tt y m1 m2 q1 q2 q3 q4 => ?_⟩
      refine ⟨tt, _, 1, _, rfl, rfl, SqT.of q1, rfl, ?_⟩
      rw [full2_a e m1 m2]
      refine ⟨rfl, _, rfl, if_true_of (by rfl) ?_⟩
      refine ⟨_, rfl, x, dx6, _, rfl, hx6, x, "h", full2, _, _, rfl, hS6, by decide, by decide +kernel, fun e tt y m1 m2 q1 q2 q3 q4 => ?_⟩
      refine ⟨tt, _, 1, _, rfl, rfl, SqT.of q1, rfl, ?_⟩
      rw [full2_h e m1 m2]
      exact ⟨rfl, k _⟩


end
theorem all_mk {l : PySem.W.OpenLaw} {w : World} {K : PySem.W.Frag} {h : Heap} {mg : Str → Option Value} {fa : Addr} (X : K.In h) (G : h.Ns mainGlobals mg) (hfa : mg "law" = some (.ref fa)) (tabs : ∀ x ∈ ([] : List Str), TabOf K mg h x)
    {f_is_whole : Addr} {od_is_whole an_is_whole : Option Addr} {sl_is_whole : Array (Option Value)} {oc_is_whole kV_is_whole dc_is_whole pm_is_whole cd_is_whole ct_is_whole : Value}
    {f_is_between : Addr} {od_is_between an_is_between : Option Addr} {sl_is_between : Array (Option Value)} {oc_is_between kV_is_between dc_is_between pm_is_between cd_is_between ct_is_between : Value}
    {f_is_name : Addr} {od_is_name an_is_name : Option Addr} {sl_is_name : Array (Option Value)} {oc_is_name kV_is_name dc_is_name pm_is_name cd_is_name ct_is_name : Value}
    {f_need_part : Addr} {od_need_part an_need_part : Option Addr} {sl_need_part : Array (Option Value)} {oc_need_part kV_need_part dc_need_part pm_need_part cd_need_part ct_need_part : Value}
    {f_with_item : Addr} {od_with_item an_with_item : Option Addr} {sl_with_item : Array (Option Value)} {oc_with_item kV_with_item dc_with_item pm_with_item cd_with_item ct_with_item : Value}
    {f_with_row : Addr} {od_with_row an_with_row : Option Addr} {sl_with_row : Array (Option Value)} {oc_with_row kV_with_row dc_with_row pm_with_row cd_with_row ct_with_row : Value}
    {f_pen : Addr} {od_pen an_pen : Option Addr} {sl_pen : Array (Option Value)} {oc_pen kV_pen dc_pen pm_pen cd_pen ct_pen : Value}
    {f_draw : Addr} {od_draw an_draw : Option Addr} {sl_draw : Array (Option Value)} {oc_draw kV_draw dc_draw pm_draw cd_draw ct_draw : Value}
    {f_pick : Addr} {od_pick an_pick : Option Addr} {sl_pick : Array (Option Value)} {oc_pick kV_pick dc_pick pm_pick cd_pick ct_pick : Value}
    {f_name : Addr} {od_name an_name : Option Addr} {sl_name : Array (Option Value)} {oc_name kV_name dc_name pm_name cd_name ct_name : Value}
    {f_state : Addr} {od_state an_state : Option Addr} {sl_state : Array (Option Value)} {oc_state kV_state dc_state pm_state cd_state ct_state : Value}
    {f_with : Addr} {od_with an_with : Option Addr} {sl_with : Array (Option Value)} {oc_with kV_with dc_with pm_with cd_with ct_with : Value}
    {f_stock : Addr} {od_stock an_stock : Option Addr} {sl_stock : Array (Option Value)} {oc_stock kV_stock dc_stock pm_stock cd_stock ct_stock : Value}
    {f_row : Addr} {od_row an_row : Option Addr} {sl_row : Array (Option Value)} {oc_row kV_row dc_row pm_row cd_row ct_row : Value}
    {f_bad : Addr} {od_bad an_bad : Option Addr} {sl_bad : Array (Option Value)} {oc_bad kV_bad dc_bad pm_bad cd_bad ct_bad : Value}
    {f_first_bad : Addr} {od_first_bad an_first_bad : Option Addr} {sl_first_bad : Array (Option Value)} {oc_first_bad kV_first_bad dc_first_bad pm_first_bad cd_first_bad ct_first_bad : Value}
    {f_right : Addr} {od_right an_right : Option Addr} {sl_right : Array (Option Value)} {oc_right kV_right dc_right pm_right cd_right ct_right : Value}
    {f_law : Addr} {od_law an_law : Option Addr} {sl_law : Array (Option Value)} {oc_law kV_law dc_law pm_law cd_law ct_law : Value}
    {f_BadWheel_init : Addr} {od_BadWheel_init an_BadWheel_init : Option Addr} {sl_BadWheel_init : Array (Option Value)} {oc_BadWheel_init kV_BadWheel_init dc_BadWheel_init pm_BadWheel_init cd_BadWheel_init ct_BadWheel_init : Value}
    {f_BadShelf_init : Addr} {od_BadShelf_init an_BadShelf_init : Option Addr} {sl_BadShelf_init : Array (Option Value)} {oc_BadShelf_init kV_BadShelf_init dc_BadShelf_init pm_BadShelf_init cd_BadShelf_init ct_BadShelf_init : Value}
    {f_BadDeed_init : Addr} {od_BadDeed_init an_BadDeed_init : Option Addr} {sl_BadDeed_init : Array (Option Value)} {oc_BadDeed_init kV_BadDeed_init dc_BadDeed_init pm_BadDeed_init cd_BadDeed_init ct_BadDeed_init : Value}
    {f_TooMany_init : Addr} {od_TooMany_init an_TooMany_init : Option Addr} {sl_TooMany_init : Array (Option Value)} {oc_TooMany_init kV_TooMany_init dc_TooMany_init pm_TooMany_init cd_TooMany_init ct_TooMany_init : Value}
    {f_Wheel_init : Addr} {od_Wheel_init an_Wheel_init : Option Addr} {sl_Wheel_init : Array (Option Value)} {oc_Wheel_init kV_Wheel_init dc_Wheel_init pm_Wheel_init cd_Wheel_init ct_Wheel_init : Value}
    {f_Wheel_str : Addr} {od_Wheel_str an_Wheel_str : Option Addr} {sl_Wheel_str : Array (Option Value)} {oc_Wheel_str kV_Wheel_str dc_Wheel_str pm_Wheel_str cd_Wheel_str ct_Wheel_str : Value}
    {f_Exact_init : Addr} {od_Exact_init an_Exact_init : Option Addr} {sl_Exact_init : Array (Option Value)} {oc_Exact_init kV_Exact_init dc_Exact_init pm_Exact_init ct_Exact_init : Value}
    {ca_Exact_init cc_Exact_init : Addr} {e_Exact_init g1_Exact_init : Value} {dd_Exact_init g2_Exact_init : Option Addr} {vs_Exact_init : Array Value} {sl2_Exact_init g3_Exact_init : Array (Option Value)} {tf_Exact_init : Tok} {cdD_Exact_init : ClassData}
    {f_Grid_init : Addr} {od_Grid_init an_Grid_init : Option Addr} {sl_Grid_init : Array (Option Value)} {oc_Grid_init kV_Grid_init dc_Grid_init pm_Grid_init ct_Grid_init : Value}
    {ca_Grid_init cc_Grid_init : Addr} {e_Grid_init g1_Grid_init : Value} {dd_Grid_init g2_Grid_init : Option Addr} {vs_Grid_init : Array Value} {sl2_Grid_init g3_Grid_init : Array (Option Value)} {tf_Grid_init : Tok} {cdD_Grid_init : ClassData}
    {f_Shelf_init : Addr} {od_Shelf_init an_Shelf_init : Option Addr} {sl_Shelf_init : Array (Option Value)} {oc_Shelf_init kV_Shelf_init dc_Shelf_init pm_Shelf_init cd_Shelf_init ct_Shelf_init : Value}
    {f_Shelf_can_undo : Addr} {od_Shelf_can_undo an_Shelf_can_undo : Option Addr} {sl_Shelf_can_undo : Array (Option Value)} {oc_Shelf_can_undo kV_Shelf_can_undo dc_Shelf_can_undo pm_Shelf_can_undo cd_Shelf_can_undo ct_Shelf_can_undo : Value}
    {p_Shelf_can_undo : Addr} {rest_Shelf_can_undo : List Value}
    {f_Shelf_can_redo : Addr} {od_Shelf_can_redo an_Shelf_can_redo : Option Addr} {sl_Shelf_can_redo : Array (Option Value)} {oc_Shelf_can_redo kV_Shelf_can_redo dc_Shelf_can_redo pm_Shelf_can_redo cd_Shelf_can_redo ct_Shelf_can_redo : Value}
    {p_Shelf_can_redo : Addr} {rest_Shelf_can_redo : List Value}
    {f_Shelf_len : Addr} {od_Shelf_len an_Shelf_len : Option Addr} {sl_Shelf_len : Array (Option Value)} {oc_Shelf_len kV_Shelf_len dc_Shelf_len pm_Shelf_len cd_Shelf_len ct_Shelf_len : Value}
    {f_Shelf_iter : Addr} {od_Shelf_iter an_Shelf_iter : Option Addr} {sl_Shelf_iter : Array (Option Value)} {oc_Shelf_iter kV_Shelf_iter dc_Shelf_iter pm_Shelf_iter cd_Shelf_iter ct_Shelf_iter : Value}
    {f_Shelf_contains : Addr} {od_Shelf_contains an_Shelf_contains : Option Addr} {sl_Shelf_contains : Array (Option Value)} {oc_Shelf_contains kV_Shelf_contains dc_Shelf_contains pm_Shelf_contains cd_Shelf_contains ct_Shelf_contains : Value}
    {f_Shelf_getitem : Addr} {od_Shelf_getitem an_Shelf_getitem : Option Addr} {sl_Shelf_getitem : Array (Option Value)} {oc_Shelf_getitem kV_Shelf_getitem dc_Shelf_getitem pm_Shelf_getitem cd_Shelf_getitem ct_Shelf_getitem : Value}
    {f_Shelf_stock : Addr} {od_Shelf_stock an_Shelf_stock : Option Addr} {sl_Shelf_stock : Array (Option Value)} {oc_Shelf_stock kV_Shelf_stock dc_Shelf_stock pm_Shelf_stock cd_Shelf_stock ct_Shelf_stock : Value}
    {f_Shelf_done : Addr} {od_Shelf_done an_Shelf_done : Option Addr} {sl_Shelf_done : Array (Option Value)} {oc_Shelf_done kV_Shelf_done dc_Shelf_done pm_Shelf_done cd_Shelf_done ct_Shelf_done : Value}
    {f_Shelf_hold : Addr} {od_Shelf_hold an_Shelf_hold : Option Addr} {sl_Shelf_hold : Array (Option Value)} {oc_Shelf_hold kV_Shelf_hold dc_Shelf_hold pm_Shelf_hold cd_Shelf_hold ct_Shelf_hold : Value}
    {f_Shelf_undo : Addr} {od_Shelf_undo an_Shelf_undo : Option Addr} {sl_Shelf_undo : Array (Option Value)} {oc_Shelf_undo kV_Shelf_undo dc_Shelf_undo pm_Shelf_undo cd_Shelf_undo ct_Shelf_undo : Value}
    {C_ReachError C_Shelf C_Wheel C_Exact C_Grid C_BadWheel C_BadShelf C_BadDeed C_TooMany : Addr} {tM tL tN tQ : Tok}
    {nmBadWheel qbBadWheel : Str} {NbBadWheel : Addr} {bsBadWheel bmBadWheel : List Value} {snBadWheel : List Str} {suBadWheel : List Value} {abBadWheel : Bool} {coBadWheel : Option Bool} {ddBadWheel : Option Addr} {m0BadWheel m1BadWheel m2BadWheel m3BadWheel m5BadWheel : Option Value}
    {nmBadShelf qbBadShelf : Str} {NbBadShelf : Addr} {bsBadShelf bmBadShelf : List Value} {snBadShelf : List Str} {suBadShelf : List Value} {abBadShelf : Bool} {coBadShelf : Option Bool} {ddBadShelf : Option Addr} {m0BadShelf m1BadShelf m2BadShelf m3BadShelf m5BadShelf : Option Value}
    {nmBadDeed qbBadDeed : Str} {NbBadDeed : Addr} {bsBadDeed bmBadDeed : List Value} {snBadDeed : List Str} {suBadDeed : List Value} {abBadDeed : Bool} {coBadDeed : Option Bool} {ddBadDeed : Option Addr} {m0BadDeed m1BadDeed m2BadDeed m3BadDeed m5BadDeed : Option Value}
    {nmTooMany qbTooMany : Str} {NbTooMany : Addr} {bsTooMany bmTooMany : List Value} {snTooMany : List Str} {suTooMany : List Value} {abTooMany : Bool} {coTooMany : Option Bool} {ddTooMany : Option Addr} {m0TooMany m1TooMany m2TooMany m3TooMany m5TooMany : Option Value}
    (a_is_whole : PySem.W.nsIn K mainGlobals "is_whole" = some (some (.ref f_is_whole)))
    (l_is_whole : K.lookup f_is_whole = some ⟨oc_is_whole, od_is_whole, .func (PySem.W.fnOf "is_whole" "is_whole" (defArgs s_is_whole) (defBody s_is_whole) (defScope s_is_whole) .none kV_is_whole dc_is_whole pm_is_whole an_is_whole cd_is_whole ct_is_whole), sl_is_whole⟩)
    (c_is_whole : PySem.W.codeIn K cd_is_whole "is_whole" = true)
    (k_is_whole : PySem.W.keepIn K (.ref f_is_whole) = true)
    (a_is_between : PySem.W.nsIn K mainGlobals "is_between" = some (some (.ref f_is_between)))
    (l_is_between : K.lookup f_is_between = some ⟨oc_is_between, od_is_between, .func (PySem.W.fnOf "is_between" "is_between" (defArgs s_is_between) (defBody s_is_between) (defScope s_is_between) .none kV_is_between dc_is_between pm_is_between an_is_between cd_is_between ct_is_between), sl_is_between⟩)
    (c_is_between : PySem.W.codeIn K cd_is_between "is_between" = true)
    (k_is_between : PySem.W.keepIn K (.ref f_is_between) = true)
    (a_is_name : PySem.W.nsIn K mainGlobals "is_name" = some (some (.ref f_is_name)))
    (l_is_name : K.lookup f_is_name = some ⟨oc_is_name, od_is_name, .func (PySem.W.fnOf "is_name" "is_name" (defArgs s_is_name) (defBody s_is_name) (defScope s_is_name) .none kV_is_name dc_is_name pm_is_name an_is_name cd_is_name ct_is_name), sl_is_name⟩)
    (c_is_name : PySem.W.codeIn K cd_is_name "is_name" = true)
    (k_is_name : PySem.W.keepIn K (.ref f_is_name) = true)
    (a_need_part : PySem.W.nsIn K mainGlobals "need_part" = some (some (.ref f_need_part)))
    (l_need_part : K.lookup f_need_part = some ⟨oc_need_part, od_need_part, .func (PySem.W.fnOf "need_part" "need_part" (defArgs s_need_part) (defBody s_need_part) (defScope s_need_part) .none kV_need_part dc_need_part pm_need_part an_need_part cd_need_part ct_need_part), sl_need_part⟩)
    (c_need_part : PySem.W.codeIn K cd_need_part "need_part" = true)
    (k_need_part : PySem.W.keepIn K (.ref f_need_part) = true)
    (a_with_item : PySem.W.nsIn K mainGlobals "with_item" = some (some (.ref f_with_item)))
    (l_with_item : K.lookup f_with_item = some ⟨oc_with_item, od_with_item, .func (PySem.W.fnOf "with_item" "with_item" (defArgs s_with_item) (defBody s_with_item) (defScope s_with_item) .none kV_with_item dc_with_item pm_with_item an_with_item cd_with_item ct_with_item), sl_with_item⟩)
    (c_with_item : PySem.W.codeIn K cd_with_item "with_item" = true)
    (k_with_item : PySem.W.keepIn K (.ref f_with_item) = true)
    (a_with_row : PySem.W.nsIn K mainGlobals "with_row" = some (some (.ref f_with_row)))
    (l_with_row : K.lookup f_with_row = some ⟨oc_with_row, od_with_row, .func (PySem.W.fnOf "with_row" "with_row" (defArgs s_with_row) (defBody s_with_row) (defScope s_with_row) .none kV_with_row dc_with_row pm_with_row an_with_row cd_with_row ct_with_row), sl_with_row⟩)
    (c_with_row : PySem.W.codeIn K cd_with_row "with_row" = true)
    (k_with_row : PySem.W.keepIn K (.ref f_with_row) = true)
    (a_pen : PySem.W.nsIn K mainGlobals "_law_pen" = some (some (.ref f_pen)))
    (l_pen : K.lookup f_pen = some ⟨oc_pen, od_pen, .func (PySem.W.fnOf "_law_pen" "_law_pen" (defArgs s_pen) (defBody s_pen) (defScope s_pen) .none kV_pen dc_pen pm_pen an_pen cd_pen ct_pen), sl_pen⟩)
    (c_pen : PySem.W.codeIn K cd_pen "_law_pen" = true)
    (k_pen : PySem.W.keepIn K (.ref f_pen) = true)
    (a_draw : PySem.W.nsIn K mainGlobals "_law_draw" = some (some (.ref f_draw)))
    (l_draw : K.lookup f_draw = some ⟨oc_draw, od_draw, .func (PySem.W.fnOf "_law_draw" "_law_draw" (defArgs s_draw) (defBody s_draw) (defScope s_draw) .none kV_draw dc_draw pm_draw an_draw cd_draw ct_draw), sl_draw⟩)
    (c_draw : PySem.W.codeIn K cd_draw "_law_draw" = true)
    (k_draw : PySem.W.keepIn K (.ref f_draw) = true)
    (a_pick : PySem.W.nsIn K mainGlobals "_law_pick" = some (some (.ref f_pick)))
    (l_pick : K.lookup f_pick = some ⟨oc_pick, od_pick, .func (PySem.W.fnOf "_law_pick" "_law_pick" (defArgs s_pick) (defBody s_pick) (defScope s_pick) .none kV_pick dc_pick pm_pick an_pick cd_pick ct_pick), sl_pick⟩)
    (c_pick : PySem.W.codeIn K cd_pick "_law_pick" = true)
    (k_pick : PySem.W.keepIn K (.ref f_pick) = true)
    (a_name : PySem.W.nsIn K mainGlobals "_law_name" = some (some (.ref f_name)))
    (l_name : K.lookup f_name = some ⟨oc_name, od_name, .func (PySem.W.fnOf "_law_name" "_law_name" (defArgs s_name) (defBody s_name) (defScope s_name) .none kV_name dc_name pm_name an_name cd_name ct_name), sl_name⟩)
    (c_name : PySem.W.codeIn K cd_name "_law_name" = true)
    (k_name : PySem.W.keepIn K (.ref f_name) = true)
    (a_state : PySem.W.nsIn K mainGlobals "_law_state" = some (some (.ref f_state)))
    (l_state : K.lookup f_state = some ⟨oc_state, od_state, .func (PySem.W.fnOf "_law_state" "_law_state" (defArgs s_state) (defBody s_state) (defScope s_state) .none kV_state dc_state pm_state an_state cd_state ct_state), sl_state⟩)
    (c_state : PySem.W.codeIn K cd_state "_law_state" = true)
    (k_state : PySem.W.keepIn K (.ref f_state) = true)
    (a_with : PySem.W.nsIn K mainGlobals "_law_with" = some (some (.ref f_with)))
    (l_with : K.lookup f_with = some ⟨oc_with, od_with, .func (PySem.W.fnOf "_law_with" "_law_with" (defArgs s_with) (defBody s_with) (defScope s_with) .none kV_with dc_with pm_with an_with cd_with ct_with), sl_with⟩)
    (c_with : PySem.W.codeIn K cd_with "_law_with" = true)
    (k_with : PySem.W.keepIn K (.ref f_with) = true)
    (a_stock : PySem.W.nsIn K mainGlobals "_law_stock" = some (some (.ref f_stock)))
    (l_stock : K.lookup f_stock = some ⟨oc_stock, od_stock, .func (PySem.W.fnOf "_law_stock" "_law_stock" (defArgs s_stock) (defBody s_stock) (defScope s_stock) .none kV_stock dc_stock pm_stock an_stock cd_stock ct_stock), sl_stock⟩)
    (c_stock : PySem.W.codeIn K cd_stock "_law_stock" = true)
    (k_stock : PySem.W.keepIn K (.ref f_stock) = true)
    (a_row : PySem.W.nsIn K mainGlobals "_law_row" = some (some (.ref f_row)))
    (l_row : K.lookup f_row = some ⟨oc_row, od_row, .func (PySem.W.fnOf "_law_row" "_law_row" (defArgs s_row) (defBody s_row) (defScope s_row) .none kV_row dc_row pm_row an_row cd_row ct_row), sl_row⟩)
    (c_row : PySem.W.codeIn K cd_row "_law_row" = true)
    (k_row : PySem.W.keepIn K (.ref f_row) = true)
    (a_bad : PySem.W.nsIn K mainGlobals "_law_bad" = some (some (.ref f_bad)))
    (l_bad : K.lookup f_bad = some ⟨oc_bad, od_bad, .func (PySem.W.fnOf "_law_bad" "_law_bad" (defArgs s_bad) (defBody s_bad) (defScope s_bad) .none kV_bad dc_bad pm_bad an_bad cd_bad ct_bad), sl_bad⟩)
    (c_bad : PySem.W.codeIn K cd_bad "_law_bad" = true)
    (k_bad : PySem.W.keepIn K (.ref f_bad) = true)
    (a_first_bad : PySem.W.nsIn K mainGlobals "_law_first_bad" = some (some (.ref f_first_bad)))
    (l_first_bad : K.lookup f_first_bad = some ⟨oc_first_bad, od_first_bad, .func (PySem.W.fnOf "_law_first_bad" "_law_first_bad" (defArgs s_first_bad) (defBody s_first_bad) (defScope s_first_bad) .none kV_first_bad dc_first_bad pm_first_bad an_first_bad cd_first_bad ct_first_bad), sl_first_bad⟩)
    (c_first_bad : PySem.W.codeIn K cd_first_bad "_law_first_bad" = true)
    (k_first_bad : PySem.W.keepIn K (.ref f_first_bad) = true)
    (a_right : PySem.W.nsIn K mainGlobals "_law_right" = some (some (.ref f_right)))
    (l_right : K.lookup f_right = some ⟨oc_right, od_right, .func (PySem.W.fnOf "_law_right" "_law_right" (defArgs s_right) (defBody s_right) (defScope s_right) .none kV_right dc_right pm_right an_right cd_right ct_right), sl_right⟩)
    (c_right : PySem.W.codeIn K cd_right "_law_right" = true)
    (k_right : PySem.W.keepIn K (.ref f_right) = true)
    (a_law : PySem.W.nsIn K mainGlobals "law" = some (some (.ref f_law)))
    (l_law : K.lookup f_law = some ⟨oc_law, od_law, .func (PySem.W.fnOf "law" "law" (defArgs s_law) (defBody s_law) (defScope s_law) .none kV_law dc_law pm_law an_law cd_law ct_law), sl_law⟩)
    (c_law : PySem.W.codeIn K cd_law "law" = true)
    (k_law : PySem.W.keepIn K (.ref f_law) = true)
    (a_BadWheel_init : PySem.W.findIn K (.ref C_BadWheel) "__init__" = some (some (.ref f_BadWheel_init)))
    (l_BadWheel_init : K.lookup f_BadWheel_init = some ⟨oc_BadWheel_init, od_BadWheel_init, .func (PySem.W.fnOf "__init__" "BadWheel.__init__" (defArgs s_BadWheel_init) (defBody s_BadWheel_init) (defScope s_BadWheel_init) .none kV_BadWheel_init dc_BadWheel_init pm_BadWheel_init an_BadWheel_init cd_BadWheel_init ct_BadWheel_init), sl_BadWheel_init⟩)
    (c_BadWheel_init : PySem.W.codeIn K cd_BadWheel_init "BadWheel.__init__" = true)
    (k_BadWheel_init : PySem.W.keepIn K (.ref f_BadWheel_init) = true)
    (a_BadShelf_init : PySem.W.findIn K (.ref C_BadShelf) "__init__" = some (some (.ref f_BadShelf_init)))
    (l_BadShelf_init : K.lookup f_BadShelf_init = some ⟨oc_BadShelf_init, od_BadShelf_init, .func (PySem.W.fnOf "__init__" "BadShelf.__init__" (defArgs s_BadShelf_init) (defBody s_BadShelf_init) (defScope s_BadShelf_init) .none kV_BadShelf_init dc_BadShelf_init pm_BadShelf_init an_BadShelf_init cd_BadShelf_init ct_BadShelf_init), sl_BadShelf_init⟩)
    (c_BadShelf_init : PySem.W.codeIn K cd_BadShelf_init "BadShelf.__init__" = true)
    (k_BadShelf_init : PySem.W.keepIn K (.ref f_BadShelf_init) = true)
    (a_BadDeed_init : PySem.W.findIn K (.ref C_BadDeed) "__init__" = some (some (.ref f_BadDeed_init)))
    (l_BadDeed_init : K.lookup f_BadDeed_init = some ⟨oc_BadDeed_init, od_BadDeed_init, .func (PySem.W.fnOf "__init__" "BadDeed.__init__" (defArgs s_BadDeed_init) (defBody s_BadDeed_init) (defScope s_BadDeed_init) .none kV_BadDeed_init dc_BadDeed_init pm_BadDeed_init an_BadDeed_init cd_BadDeed_init ct_BadDeed_init), sl_BadDeed_init⟩)
    (c_BadDeed_init : PySem.W.codeIn K cd_BadDeed_init "BadDeed.__init__" = true)
    (k_BadDeed_init : PySem.W.keepIn K (.ref f_BadDeed_init) = true)
    (a_TooMany_init : PySem.W.findIn K (.ref C_TooMany) "__init__" = some (some (.ref f_TooMany_init)))
    (l_TooMany_init : K.lookup f_TooMany_init = some ⟨oc_TooMany_init, od_TooMany_init, .func (PySem.W.fnOf "__init__" "TooMany.__init__" (defArgs s_TooMany_init) (defBody s_TooMany_init) (defScope s_TooMany_init) .none kV_TooMany_init dc_TooMany_init pm_TooMany_init an_TooMany_init cd_TooMany_init ct_TooMany_init), sl_TooMany_init⟩)
    (c_TooMany_init : PySem.W.codeIn K cd_TooMany_init "TooMany.__init__" = true)
    (k_TooMany_init : PySem.W.keepIn K (.ref f_TooMany_init) = true)
    (a_Wheel_init : PySem.W.findIn K (.ref C_Wheel) "__init__" = some (some (.ref f_Wheel_init)))
    (l_Wheel_init : K.lookup f_Wheel_init = some ⟨oc_Wheel_init, od_Wheel_init, .func (PySem.W.fnOf "__init__" "Wheel.__init__" (defArgs s_Wheel_init) (defBody s_Wheel_init) (defScope s_Wheel_init) .none kV_Wheel_init dc_Wheel_init pm_Wheel_init an_Wheel_init cd_Wheel_init ct_Wheel_init), sl_Wheel_init⟩)
    (c_Wheel_init : PySem.W.codeIn K cd_Wheel_init "Wheel.__init__" = true)
    (k_Wheel_init : PySem.W.keepIn K (.ref f_Wheel_init) = true)
    (a_Wheel_str : PySem.W.findIn K (.ref C_Wheel) "__str__" = some (some (.ref f_Wheel_str)))
    (l_Wheel_str : K.lookup f_Wheel_str = some ⟨oc_Wheel_str, od_Wheel_str, .func (PySem.W.fnOf "__str__" "Wheel.__str__" (defArgs s_Wheel_str) (defBody s_Wheel_str) (defScope s_Wheel_str) .none kV_Wheel_str dc_Wheel_str pm_Wheel_str an_Wheel_str cd_Wheel_str ct_Wheel_str), sl_Wheel_str⟩)
    (c_Wheel_str : PySem.W.codeIn K cd_Wheel_str "Wheel.__str__" = true)
    (k_Wheel_str : PySem.W.keepIn K (.ref f_Wheel_str) = true)
    (a_Exact_init : PySem.W.findIn K (.ref C_Exact) "__init__" = some (some (.ref f_Exact_init)))
    (l_Exact_init : K.lookup f_Exact_init = some ⟨oc_Exact_init, od_Exact_init, .func (PySem.W.ksFn "__init__" "Exact.__init__" (defArgs s_Exact_init) (defBody s_Exact_init) (defScope s_Exact_init) .none kV_Exact_init dc_Exact_init pm_Exact_init an_Exact_init (.ref ca_Exact_init) ct_Exact_init cc_Exact_init), sl_Exact_init⟩)
    (c_Exact_init : PySem.W.codeIn K (.ref ca_Exact_init) "Exact.__init__" = true)
    (k_Exact_init : PySem.W.keepIn K (.ref f_Exact_init) = true)
    (t_Exact_init : K.lookup ca_Exact_init = some ⟨e_Exact_init, dd_Exact_init, .fields vs_Exact_init, sl2_Exact_init⟩)
    (p_Exact_init : vs_Exact_init[2]? = some (.str lawFile tf_Exact_init))
    (y_Exact_init : K.lookup cc_Exact_init = some ⟨g1_Exact_init, g2_Exact_init, .cell (some (.ref C_Exact)), g3_Exact_init⟩)
    (w_Exact_init : PySem.W.clsIn K C_Exact = some cdD_Exact_init)
    (a_Grid_init : PySem.W.findIn K (.ref C_Grid) "__init__" = some (some (.ref f_Grid_init)))
    (l_Grid_init : K.lookup f_Grid_init = some ⟨oc_Grid_init, od_Grid_init, .func (PySem.W.ksFn "__init__" "Grid.__init__" (defArgs s_Grid_init) (defBody s_Grid_init) (defScope s_Grid_init) .none kV_Grid_init dc_Grid_init pm_Grid_init an_Grid_init (.ref ca_Grid_init) ct_Grid_init cc_Grid_init), sl_Grid_init⟩)
    (c_Grid_init : PySem.W.codeIn K (.ref ca_Grid_init) "Grid.__init__" = true)
    (k_Grid_init : PySem.W.keepIn K (.ref f_Grid_init) = true)
    (t_Grid_init : K.lookup ca_Grid_init = some ⟨e_Grid_init, dd_Grid_init, .fields vs_Grid_init, sl2_Grid_init⟩)
    (p_Grid_init : vs_Grid_init[2]? = some (.str lawFile tf_Grid_init))
    (y_Grid_init : K.lookup cc_Grid_init = some ⟨g1_Grid_init, g2_Grid_init, .cell (some (.ref C_Grid)), g3_Grid_init⟩)
    (w_Grid_init : PySem.W.clsIn K C_Grid = some cdD_Grid_init)
    (a_Shelf_init : PySem.W.findIn K (.ref C_Shelf) "__init__" = some (some (.ref f_Shelf_init)))
    (l_Shelf_init : K.lookup f_Shelf_init = some ⟨oc_Shelf_init, od_Shelf_init, .func (PySem.W.fnOf "__init__" "Shelf.__init__" (defArgs s_Shelf_init) (defBody s_Shelf_init) (defScope s_Shelf_init) .none kV_Shelf_init dc_Shelf_init pm_Shelf_init an_Shelf_init cd_Shelf_init ct_Shelf_init), sl_Shelf_init⟩)
    (c_Shelf_init : PySem.W.codeIn K cd_Shelf_init "Shelf.__init__" = true)
    (k_Shelf_init : PySem.W.keepIn K (.ref f_Shelf_init) = true)
    (a_Shelf_can_undo : PySem.W.findIn K (.ref C_Shelf) "can_undo" = some (some (.ref p_Shelf_can_undo)))
    (r_Shelf_can_undo : PySem.W.recIn K p_Shelf_can_undo "property" = some (.ref f_Shelf_can_undo :: rest_Shelf_can_undo))
    (l_Shelf_can_undo : K.lookup f_Shelf_can_undo = some ⟨oc_Shelf_can_undo, od_Shelf_can_undo, .func (PySem.W.fnOf "can_undo" "Shelf.can_undo" (defArgs s_Shelf_can_undo) (defBody s_Shelf_can_undo) (defScope s_Shelf_can_undo) .none kV_Shelf_can_undo dc_Shelf_can_undo pm_Shelf_can_undo an_Shelf_can_undo cd_Shelf_can_undo ct_Shelf_can_undo), sl_Shelf_can_undo⟩)
    (c_Shelf_can_undo : PySem.W.codeIn K cd_Shelf_can_undo "Shelf.can_undo" = true)
    (k_Shelf_can_undo : PySem.W.keepIn K (.ref f_Shelf_can_undo) = true)
    (a_Shelf_can_redo : PySem.W.findIn K (.ref C_Shelf) "can_redo" = some (some (.ref p_Shelf_can_redo)))
    (r_Shelf_can_redo : PySem.W.recIn K p_Shelf_can_redo "property" = some (.ref f_Shelf_can_redo :: rest_Shelf_can_redo))
    (l_Shelf_can_redo : K.lookup f_Shelf_can_redo = some ⟨oc_Shelf_can_redo, od_Shelf_can_redo, .func (PySem.W.fnOf "can_redo" "Shelf.can_redo" (defArgs s_Shelf_can_redo) (defBody s_Shelf_can_redo) (defScope s_Shelf_can_redo) .none kV_Shelf_can_redo dc_Shelf_can_redo pm_Shelf_can_redo an_Shelf_can_redo cd_Shelf_can_redo ct_Shelf_can_redo), sl_Shelf_can_redo⟩)
    (c_Shelf_can_redo : PySem.W.codeIn K cd_Shelf_can_redo "Shelf.can_redo" = true)
    (k_Shelf_can_redo : PySem.W.keepIn K (.ref f_Shelf_can_redo) = true)
    (a_Shelf_len : PySem.W.findIn K (.ref C_Shelf) "__len__" = some (some (.ref f_Shelf_len)))
    (l_Shelf_len : K.lookup f_Shelf_len = some ⟨oc_Shelf_len, od_Shelf_len, .func (PySem.W.fnOf "__len__" "Shelf.__len__" (defArgs s_Shelf_len) (defBody s_Shelf_len) (defScope s_Shelf_len) .none kV_Shelf_len dc_Shelf_len pm_Shelf_len an_Shelf_len cd_Shelf_len ct_Shelf_len), sl_Shelf_len⟩)
    (c_Shelf_len : PySem.W.codeIn K cd_Shelf_len "Shelf.__len__" = true)
    (k_Shelf_len : PySem.W.keepIn K (.ref f_Shelf_len) = true)
    (a_Shelf_iter : PySem.W.findIn K (.ref C_Shelf) "__iter__" = some (some (.ref f_Shelf_iter)))
    (l_Shelf_iter : K.lookup f_Shelf_iter = some ⟨oc_Shelf_iter, od_Shelf_iter, .func (PySem.W.fnOf "__iter__" "Shelf.__iter__" (defArgs s_Shelf_iter) (defBody s_Shelf_iter) (defScope s_Shelf_iter) .none kV_Shelf_iter dc_Shelf_iter pm_Shelf_iter an_Shelf_iter cd_Shelf_iter ct_Shelf_iter), sl_Shelf_iter⟩)
    (c_Shelf_iter : PySem.W.codeIn K cd_Shelf_iter "Shelf.__iter__" = true)
    (k_Shelf_iter : PySem.W.keepIn K (.ref f_Shelf_iter) = true)
    (a_Shelf_contains : PySem.W.findIn K (.ref C_Shelf) "__contains__" = some (some (.ref f_Shelf_contains)))
    (l_Shelf_contains : K.lookup f_Shelf_contains = some ⟨oc_Shelf_contains, od_Shelf_contains, .func (PySem.W.fnOf "__contains__" "Shelf.__contains__" (defArgs s_Shelf_contains) (defBody s_Shelf_contains) (defScope s_Shelf_contains) .none kV_Shelf_contains dc_Shelf_contains pm_Shelf_contains an_Shelf_contains cd_Shelf_contains ct_Shelf_contains), sl_Shelf_contains⟩)
    (c_Shelf_contains : PySem.W.codeIn K cd_Shelf_contains "Shelf.__contains__" = true)
    (k_Shelf_contains : PySem.W.keepIn K (.ref f_Shelf_contains) = true)
    (a_Shelf_getitem : PySem.W.findIn K (.ref C_Shelf) "__getitem__" = some (some (.ref f_Shelf_getitem)))
    (l_Shelf_getitem : K.lookup f_Shelf_getitem = some ⟨oc_Shelf_getitem, od_Shelf_getitem, .func (PySem.W.fnOf "__getitem__" "Shelf.__getitem__" (defArgs s_Shelf_getitem) (defBody s_Shelf_getitem) (defScope s_Shelf_getitem) .none kV_Shelf_getitem dc_Shelf_getitem pm_Shelf_getitem an_Shelf_getitem cd_Shelf_getitem ct_Shelf_getitem), sl_Shelf_getitem⟩)
    (c_Shelf_getitem : PySem.W.codeIn K cd_Shelf_getitem "Shelf.__getitem__" = true)
    (k_Shelf_getitem : PySem.W.keepIn K (.ref f_Shelf_getitem) = true)
    (a_Shelf_stock : PySem.W.findIn K (.ref C_Shelf) "stock" = some (some (.ref f_Shelf_stock)))
    (l_Shelf_stock : K.lookup f_Shelf_stock = some ⟨oc_Shelf_stock, od_Shelf_stock, .func (PySem.W.fnOf "stock" "Shelf.stock" (defArgs s_Shelf_stock) (defBody s_Shelf_stock) (defScope s_Shelf_stock) .none kV_Shelf_stock dc_Shelf_stock pm_Shelf_stock an_Shelf_stock cd_Shelf_stock ct_Shelf_stock), sl_Shelf_stock⟩)
    (c_Shelf_stock : PySem.W.codeIn K cd_Shelf_stock "Shelf.stock" = true)
    (k_Shelf_stock : PySem.W.keepIn K (.ref f_Shelf_stock) = true)
    (a_Shelf_done : PySem.W.findIn K (.ref C_Shelf) "_done" = some (some (.ref f_Shelf_done)))
    (l_Shelf_done : K.lookup f_Shelf_done = some ⟨oc_Shelf_done, od_Shelf_done, .func (PySem.W.fnOf "_done" "Shelf._done" (defArgs s_Shelf_done) (defBody s_Shelf_done) (defScope s_Shelf_done) .none kV_Shelf_done dc_Shelf_done pm_Shelf_done an_Shelf_done cd_Shelf_done ct_Shelf_done), sl_Shelf_done⟩)
    (c_Shelf_done : PySem.W.codeIn K cd_Shelf_done "Shelf._done" = true)
    (k_Shelf_done : PySem.W.keepIn K (.ref f_Shelf_done) = true)
    (a_Shelf_hold : PySem.W.findIn K (.ref C_Shelf) "_hold" = some (some (.ref f_Shelf_hold)))
    (l_Shelf_hold : K.lookup f_Shelf_hold = some ⟨oc_Shelf_hold, od_Shelf_hold, .func (PySem.W.fnOf "_hold" "Shelf._hold" (defArgs s_Shelf_hold) (defBody s_Shelf_hold) (defScope s_Shelf_hold) .none kV_Shelf_hold dc_Shelf_hold pm_Shelf_hold an_Shelf_hold cd_Shelf_hold ct_Shelf_hold), sl_Shelf_hold⟩)
    (c_Shelf_hold : PySem.W.codeIn K cd_Shelf_hold "Shelf._hold" = true)
    (k_Shelf_hold : PySem.W.keepIn K (.ref f_Shelf_hold) = true)
    (a_Shelf_undo : PySem.W.findIn K (.ref C_Shelf) "undo" = some (some (.ref f_Shelf_undo)))
    (l_Shelf_undo : K.lookup f_Shelf_undo = some ⟨oc_Shelf_undo, od_Shelf_undo, .func (PySem.W.fnOf "undo" "Shelf.undo" (defArgs s_Shelf_undo) (defBody s_Shelf_undo) (defScope s_Shelf_undo) .none kV_Shelf_undo dc_Shelf_undo pm_Shelf_undo an_Shelf_undo cd_Shelf_undo ct_Shelf_undo), sl_Shelf_undo⟩)
    (c_Shelf_undo : PySem.W.codeIn K cd_Shelf_undo "Shelf.undo" = true)
    (k_Shelf_undo : PySem.W.keepIn K (.ref f_Shelf_undo) = true)
    (z_ValueError : PySem.W.nsIn K mainGlobals "ValueError" = some none)
    (z_abs : PySem.W.nsIn K mainGlobals "abs" = some none)
    (z_bool : PySem.W.nsIn K mainGlobals "bool" = some none)
    (z_enumerate : PySem.W.nsIn K mainGlobals "enumerate" = some none)
    (z_int : PySem.W.nsIn K mainGlobals "int" = some none)
    (z_isinstance : PySem.W.nsIn K mainGlobals "isinstance" = some none)
    (z_iter : PySem.W.nsIn K mainGlobals "iter" = some none)
    (z_len : PySem.W.nsIn K mainGlobals "len" = some none)
    (z_list : PySem.W.nsIn K mainGlobals "list" = some none)
    (z_property : PySem.W.nsIn K mainGlobals "property" = some none)
    (z_range : PySem.W.nsIn K mainGlobals "range" = some none)
    (z_repr : PySem.W.nsIn K mainGlobals "repr" = some none)
    (z_sorted : PySem.W.nsIn K mainGlobals "sorted" = some none)
    (z_staticmethod : PySem.W.nsIn K mainGlobals "staticmethod" = some none)
    (z_str : PySem.W.nsIn K mainGlobals "str" = some none)
    (z_super : PySem.W.nsIn K mainGlobals "super" = some none)
    (z_tuple : PySem.W.nsIn K mainGlobals "tuple" = some none)
    (x_R : PySem.W.nsIn K mainGlobals "ReachError" = some (some (.ref C_ReachError)))
    (x_MP : PySem.W.nsIn K mainGlobals "MOST_PERIOD" = some (some (.int 1000000000000 tM)))
    (x_ML : PySem.W.nsIn K mainGlobals "MOST_LETTERS" = some (some (.int 8 tL)))
    (x_MN : PySem.W.nsIn K mainGlobals "MOST_NAMES" = some (some (.int 8 tN)))
    (x_MQ : PySem.W.nsIn K mainGlobals "MOST_PRICE" = some (some (.int 1000000000000 tQ)))
    (x_Wheel : PySem.W.nsIn K mainGlobals "Wheel" = some (some (.ref C_Wheel)))
    (x_Exact : PySem.W.nsIn K mainGlobals "Exact" = some (some (.ref C_Exact)))
    (x_Grid : PySem.W.nsIn K mainGlobals "Grid" = some (some (.ref C_Grid)))
    (x_Shelf : PySem.W.nsIn K mainGlobals "Shelf" = some (some (.ref C_Shelf)))
    (x_BadWheel : PySem.W.nsIn K mainGlobals "BadWheel" = some (some (.ref C_BadWheel)))
    (x_BadShelf : PySem.W.nsIn K mainGlobals "BadShelf" = some (some (.ref C_BadShelf)))
    (x_BadDeed : PySem.W.nsIn K mainGlobals "BadDeed" = some (some (.ref C_BadDeed)))
    (x_TooMany : PySem.W.nsIn K mainGlobals "TooMany" = some (some (.ref C_TooMany)))
    (x_pf : ((l.prog.main.file : Str) == lawFile) = true)
    (x_pt : (l.prog.main.scope.names.lookup ("super" : Str)).isSome = false)
    (x_any : PySem.W.nsIn K PySem.cStatics "thirdparty.any" = some none)
    (x_sT : PySem.W.typeIn K (.ref f_Wheel_init) = some (.type "function"))
    (x_sF : PySem.W.fnIn K f_Wheel_init = true)
    (x_hn : PySem.W.specialIn K (.builtin "object.__class__") "__get__" = some (some (.builtin "getset_descriptor.__get__")))
    (x_ht : PySem.W.takesIn K (.builtin "object.__class__") = some true)
    (x_Rx : PySem.W.subIn K (.ref C_ReachError) (.type "BaseException") = some true)
    (x_Rh : PySem.W.hasDictIn K C_ReachError = true)
    (x_Rt : PySem.W.typeIn K (.ref C_ReachError) = some (.type "type"))
    (zBadWheel_L : K.lookup C_BadWheel = some (excClassObj nmBadWheel qbBadWheel C_BadWheel NbBadWheel bsBadWheel bmBadWheel true snBadWheel suBadWheel abBadWheel coBadWheel ddBadWheel m0BadWheel m1BadWheel m2BadWheel m3BadWheel m5BadWheel "ValueError.__new__"))
    (zBadWheel_b : PySem.HandSPX.refsVE bmBadWheel = true)
    (zBadWheel_sa : PySem.W.findIn K (.ref C_BadWheel) "__setattr__" = some (some (.builtin "object.__setattr__")))
    (zBadWheel_ex : PySem.W.subIn K (.ref C_BadWheel) (.type "BaseException") = some true)
    (zBadWheel_ty : PySem.W.typeIn K (.ref C_BadWheel) = some (.type "type"))
    (zBadWheel_k : PySem.W.keepIn K (.ref C_BadWheel) = true)
    (zBadWheel_tI : PySem.W.typeIn K (.ref f_BadWheel_init) = some (.type "function"))
    (zBadWheel_no0 : PySem.W.findIn K (.ref C_BadWheel) "part" = some Option.none)
    (zBadShelf_L : K.lookup C_BadShelf = some (excClassObj nmBadShelf qbBadShelf C_BadShelf NbBadShelf bsBadShelf bmBadShelf true snBadShelf suBadShelf abBadShelf coBadShelf ddBadShelf m0BadShelf m1BadShelf m2BadShelf m3BadShelf m5BadShelf "ValueError.__new__"))
    (zBadShelf_b : PySem.HandSPX.refsVE bmBadShelf = true)
    (zBadShelf_sa : PySem.W.findIn K (.ref C_BadShelf) "__setattr__" = some (some (.builtin "object.__setattr__")))
    (zBadShelf_ex : PySem.W.subIn K (.ref C_BadShelf) (.type "BaseException") = some true)
    (zBadShelf_ty : PySem.W.typeIn K (.ref C_BadShelf) = some (.type "type"))
    (zBadShelf_k : PySem.W.keepIn K (.ref C_BadShelf) = true)
    (zBadShelf_tI : PySem.W.typeIn K (.ref f_BadShelf_init) = some (.type "function"))
    (zBadShelf_RC : PySem.W.subIn K (.ref C_BadShelf) (.ref C_ReachError) = some true)
    (zBadShelf_no0 : PySem.W.findIn K (.ref C_BadShelf) "part" = some Option.none)
    (zBadDeed_L : K.lookup C_BadDeed = some (excClassObj nmBadDeed qbBadDeed C_BadDeed NbBadDeed bsBadDeed bmBadDeed true snBadDeed suBadDeed abBadDeed coBadDeed ddBadDeed m0BadDeed m1BadDeed m2BadDeed m3BadDeed m5BadDeed "ValueError.__new__"))
    (zBadDeed_b : PySem.HandSPX.refsVE bmBadDeed = true)
    (zBadDeed_sa : PySem.W.findIn K (.ref C_BadDeed) "__setattr__" = some (some (.builtin "object.__setattr__")))
    (zBadDeed_ex : PySem.W.subIn K (.ref C_BadDeed) (.type "BaseException") = some true)
    (zBadDeed_ty : PySem.W.typeIn K (.ref C_BadDeed) = some (.type "type"))
    (zBadDeed_k : PySem.W.keepIn K (.ref C_BadDeed) = true)
    (zBadDeed_tI : PySem.W.typeIn K (.ref f_BadDeed_init) = some (.type "function"))
    (zBadDeed_cl : PySem.W.isClsIn K C_BadDeed = true)
    (zBadDeed_ga : PySem.W.findIn K (.ref C_BadDeed) "__getattribute__" = some (some (.builtin "BaseException.__getattribute__")))
    (zBadDeed_gg : PySem.W.findIn K (.ref C_BadDeed) "__getattr__" = some Option.none)
    (zBadDeed_hd : PySem.W.hasDictIn K C_BadDeed = true)
    (zBadDeed_ha : PySem.W.findIn K (.ref C_BadDeed) "__class__" = some (some (.builtin "object.__class__")))
    (zBadDeed_hm : PySem.W.mroIn K C_BadDeed (.type "object") = some true)
    (zBadDeed_self : PySem.W.subIn K (.ref C_BadDeed) (.ref C_BadDeed) = some true)
    (zBadDeed_kR : PySem.W.kitOne K (.ref C_BadDeed) (.ref C_ReachError) = some true)
    (zBadDeed_kV : PySem.W.kitOne K (.ref C_BadDeed) (.type "ValueError") = some true)
    (zBadDeed_kS : PySem.W.kitOne K (.ref C_BadDeed) (.ref C_BadShelf) = some false)
    (zBadDeed_no0 : PySem.W.findIn K (.ref C_BadDeed) "at" = some Option.none)
    (zTooMany_L : K.lookup C_TooMany = some (excClassObj nmTooMany qbTooMany C_TooMany NbTooMany bsTooMany bmTooMany true snTooMany suTooMany abTooMany coTooMany ddTooMany m0TooMany m1TooMany m2TooMany m3TooMany m5TooMany "ValueError.__new__"))
    (zTooMany_b : PySem.HandSPX.refsVE bmTooMany = true)
    (zTooMany_sa : PySem.W.findIn K (.ref C_TooMany) "__setattr__" = some (some (.builtin "object.__setattr__")))
    (zTooMany_ex : PySem.W.subIn K (.ref C_TooMany) (.type "BaseException") = some true)
    (zTooMany_ty : PySem.W.typeIn K (.ref C_TooMany) = some (.type "type"))
    (zTooMany_k : PySem.W.keepIn K (.ref C_TooMany) = true)
    (zTooMany_tI : PySem.W.typeIn K (.ref f_TooMany_init) = some (.type "function"))
    (zTooMany_RC : PySem.W.subIn K (.ref C_TooMany) (.ref C_ReachError) = some true)
    (zTooMany_no0 : PySem.W.findIn K (.ref C_TooMany) "what" = some Option.none)
    (zTooMany_no1 : PySem.W.findIn K (.ref C_TooMany) "most" = some Option.none)
    (y_gfalse : PySem.W.specialIn K (.bool false) "__get__" = some none)
    (y_gtrue : PySem.W.specialIn K (.bool true) "__get__" = some none)
    (y_fstr : PySem.W.isFn K (.ref f_Wheel_str) = true)
    (y_kNoneType : PySem.W.kitOne K (.type "NoneType") (.ref C_Wheel) = some false)
    (y_kstr : PySem.W.kitOne K (.type "str") (.ref C_Wheel) = some false)
    (y_kint : PySem.W.kitOne K (.type "int") (.ref C_Wheel) = some false)
    (y_sn0 : NoAttr K C_Shelf "_items")
    (y_sn1 : NoAttr K C_Shelf "_names")
    (y_sn2 : NoAttr K C_Shelf "_past")
    (y_sn3 : NoAttr K C_Shelf "_ahead")
    (y_scls : Cls K C_Shelf)
    (y_smakes : PySem.W.makesIn K C_Shelf = true)
    (y_sfn : PySem.W.isFn K (.ref f_Shelf_init) = true)
    (y_skp : PySem.W.keepIn K (.ref C_Shelf) = true)
    (y_fdone : PySem.W.isFn K (.ref f_Shelf_done) = true)
    (y_fhold : PySem.W.isFn K (.ref f_Shelf_hold) = true)
    (y_fstock : PySem.W.isFn K (.ref f_Shelf_stock) = true)
    (y_fundo : PySem.W.isFn K (.ref f_Shelf_undo) = true)
    (y_fcontains : PySem.W.isFn K (.ref f_Shelf_contains) = true)
    (y_flen : PySem.W.isFn K (.ref f_Shelf_len) = true)
    (y_fiter : PySem.W.isFn K (.ref f_Shelf_iter) = true)
    (y_fgetitem : PySem.W.isFn K (.ref f_Shelf_getitem) = true)
    (y_pg_can_undo : PySem.W.specialIn K (.ref p_Shelf_can_undo) "__get__" = some (some (.builtin "property.__get__")))
    (y_pt_can_undo : PySem.W.takesIn K (.ref p_Shelf_can_undo) = some true)
    (y_pg_can_redo : PySem.W.specialIn K (.ref p_Shelf_can_redo) "__get__" = some (some (.builtin "property.__get__")))
    (y_pt_can_redo : PySem.W.takesIn K (.ref p_Shelf_can_redo) = some true)
    (yWheel_cls : Cls K C_Wheel)
    (yWheel_n1 : NoAttr K C_Wheel "period")
    (yWheel_n2 : NoAttr K C_Wheel "back")
    (yWheel_n3 : NoAttr K C_Wheel "ahead")
    (yWheel_con : PySem.W.findIn K (.ref C_Wheel) "TRUSTED" = some (some (.bool false)))
    (yWheel_m1 : PySem.W.makesIn K C_Wheel = true)
    (yWheel_m3 : PySem.W.isFn K (.ref f_Wheel_init) = true)
    (yWheel_m4 : PySem.W.keepIn K (.ref C_Wheel) = true)
    (yWheel_str : PySem.W.findIn K (.ref C_Wheel) "__str__" = some (some (.ref f_Wheel_str)))
    (yWheel_ha : PySem.W.findIn K (.ref C_Wheel) "__class__" = some (some (.builtin "object.__class__")))
    (yWheel_hm : PySem.W.mroIn K C_Wheel (.type "object") = some true)
    (yWheel_kW : PySem.W.kitOne K (.ref C_Wheel) (.ref C_Wheel) = some true)
    (yExact_cls : Cls K C_Exact)
    (yExact_n1 : NoAttr K C_Exact "period")
    (yExact_n2 : NoAttr K C_Exact "back")
    (yExact_n3 : NoAttr K C_Exact "ahead")
    (yExact_con : PySem.W.findIn K (.ref C_Exact) "TRUSTED" = some (some (.bool false)))
    (yExact_m1 : PySem.W.makesIn K C_Exact = true)
    (yExact_m3 : PySem.W.isFn K (.ref f_Exact_init) = true)
    (yExact_m4 : PySem.W.keepIn K (.ref C_Exact) = true)
    (yExact_str : PySem.W.findIn K (.ref C_Exact) "__str__" = some (some (.ref f_Wheel_str)))
    (yExact_ha : PySem.W.findIn K (.ref C_Exact) "__class__" = some (some (.builtin "object.__class__")))
    (yExact_hm : PySem.W.mroIn K C_Exact (.type "object") = some true)
    (yExact_kW : PySem.W.kitOne K (.ref C_Exact) (.ref C_Wheel) = some true)
    (yExact_sub : PySem.W.mroIn K C_Exact (.ref C_Exact) = some true)
    (yExact_sup : PySem.W.ks_superIn K C_Exact C_Exact "__init__" = some (some (.ref f_Wheel_init)))
    (yGrid_cls : Cls K C_Grid)
    (yGrid_n1 : NoAttr K C_Grid "period")
    (yGrid_n2 : NoAttr K C_Grid "back")
    (yGrid_n3 : NoAttr K C_Grid "ahead")
    (yGrid_con : PySem.W.findIn K (.ref C_Grid) "TRUSTED" = some (some (.bool true)))
    (yGrid_m1 : PySem.W.makesIn K C_Grid = true)
    (yGrid_m3 : PySem.W.isFn K (.ref f_Grid_init) = true)
    (yGrid_m4 : PySem.W.keepIn K (.ref C_Grid) = true)
    (yGrid_str : PySem.W.findIn K (.ref C_Grid) "__str__" = some (some (.ref f_Wheel_str)))
    (yGrid_ha : PySem.W.findIn K (.ref C_Grid) "__class__" = some (some (.builtin "object.__class__")))
    (yGrid_hm : PySem.W.mroIn K C_Grid (.type "object") = some true)
    (yGrid_kW : PySem.W.kitOne K (.ref C_Grid) (.ref C_Wheel) = some true)
    (yGrid_sub : PySem.W.mroIn K C_Grid (.ref C_Grid) = some true)
    (yGrid_sup : PySem.W.ks_superIn K C_Grid C_Grid "__init__" = some (some (.ref f_Wheel_init))) :
    LawG l w K 10 mg fa h := by
  have e := hfa.symm.trans (PySem.W.mg_of X G a_law)
  cases e
  have HP : PrF lawFile l.prog := ⟨x_pf, x_pt⟩
  let T : Txt K mg := { a_is_whole := f_is_whole, fd_is_whole := _, F_is_whole := fun_mk (st := s_is_whole) l_is_whole c_is_whole k_is_whole, m_is_whole := PySem.W.mg_of X G a_is_whole, a_is_between := f_is_between, fd_is_between := _, F_is_between := fun_mk (st := s_is_between) l_is_between c_is_between k_is_between, m_is_between := PySem.W.mg_of X G a_is_between, a_is_name := f_is_name, fd_is_name := _, F_is_name := fun_mk (st := s_is_name) l_is_name c_is_name k_is_name, m_is_name := PySem.W.mg_of X G a_is_name, a_need_part := f_need_part, fd_need_part := _, F_need_part := fun_mk (st := s_need_part) l_need_part c_need_part k_need_part, m_need_part := PySem.W.mg_of X G a_need_part, a_with_item := f_with_item, fd_with_item := _, F_with_item := fun_mk (st := s_with_item) l_with_item c_with_item k_with_item, m_with_item := PySem.W.mg_of X G a_with_item, a_with_row := f_with_row, fd_with_row := _, F_with_row := fun_mk (st := s_with_row) l_with_row c_with_row k_with_row, m_with_row := PySem.W.mg_of X G a_with_row, a_pen := f_pen, fd_pen := _, F_pen := fun_mk (st := s_pen) l_pen c_pen k_pen, m_pen := PySem.W.mg_of X G a_pen, a_draw := f_draw, fd_draw := _, F_draw := fun_mk (st := s_draw) l_draw c_draw k_draw, m_draw := PySem.W.mg_of X G a_draw, a_pick := f_pick, fd_pick := _, F_pick := fun_mk (st := s_pick) l_pick c_pick k_pick, m_pick := PySem.W.mg_of X G a_pick, a_name := f_name, fd_name := _, F_name := fun_mk (st := s_name) l_name c_name k_name, m_name := PySem.W.mg_of X G a_name, a_state := f_state, fd_state := _, F_state := fun_mk (st := s_state) l_state c_state k_state, m_state := PySem.W.mg_of X G a_state, a_with := f_with, fd_with := _, F_with := fun_mk (st := s_with) l_with c_with k_with, m_with := PySem.W.mg_of X G a_with, a_stock := f_stock, fd_stock := _, F_stock := fun_mk (st := s_stock) l_stock c_stock k_stock, m_stock := PySem.W.mg_of X G a_stock, a_row := f_row, fd_row := _, F_row := fun_mk (st := s_row) l_row c_row k_row, m_row := PySem.W.mg_of X G a_row, a_bad := f_bad, fd_bad := _, F_bad := fun_mk (st := s_bad) l_bad c_bad k_bad, m_bad := PySem.W.mg_of X G a_bad, a_first_bad := f_first_bad, fd_first_bad := _, F_first_bad := fun_mk (st := s_first_bad) l_first_bad c_first_bad k_first_bad, m_first_bad := PySem.W.mg_of X G a_first_bad, a_right := f_right, fd_right := _, F_right := fun_mk (st := s_right) l_right c_right k_right, m_right := PySem.W.mg_of X G a_right, a_law := fa, fd_law := _, F_law := fun_mk (st := s_law) l_law c_law k_law, m_law := PySem.W.mg_of X G a_law, a_BadWheel_init := f_BadWheel_init, fd_BadWheel_init := _, F_BadWheel_init := fun_mk (st := s_BadWheel_init) l_BadWheel_init c_BadWheel_init k_BadWheel_init, a_BadShelf_init := f_BadShelf_init, fd_BadShelf_init := _, F_BadShelf_init := fun_mk (st := s_BadShelf_init) l_BadShelf_init c_BadShelf_init k_BadShelf_init, a_BadDeed_init := f_BadDeed_init, fd_BadDeed_init := _, F_BadDeed_init := fun_mk (st := s_BadDeed_init) l_BadDeed_init c_BadDeed_init k_BadDeed_init, a_TooMany_init := f_TooMany_init, fd_TooMany_init := _, F_TooMany_init := fun_mk (st := s_TooMany_init) l_TooMany_init c_TooMany_init k_TooMany_init, a_Wheel_init := f_Wheel_init, fd_Wheel_init := _, F_Wheel_init := fun_mk (st := s_Wheel_init) l_Wheel_init c_Wheel_init k_Wheel_init, a_Wheel_str := f_Wheel_str, fd_Wheel_str := _, F_Wheel_str := fun_mk (st := s_Wheel_str) l_Wheel_str c_Wheel_str k_Wheel_str, a_Exact_init := f_Exact_init, cda_Exact_init := ca_Exact_init, cc_Exact_init := cc_Exact_init, fd_Exact_init := _, F_Exact_init := funS_mk (st := s_Exact_init) l_Exact_init c_Exact_init k_Exact_init, so_Exact_init := ⟨⟨_, _, _, _, _, t_Exact_init, p_Exact_init⟩, ⟨_, _, _, y_Exact_init⟩, ⟨_, w_Exact_init⟩, PySem.W.mg_none_of X G z_super, x_any, x_sT, x_sF⟩, a_Grid_init := f_Grid_init, cda_Grid_init := ca_Grid_init, cc_Grid_init := cc_Grid_init, fd_Grid_init := _, F_Grid_init := funS_mk (st := s_Grid_init) l_Grid_init c_Grid_init k_Grid_init, so_Grid_init := ⟨⟨_, _, _, _, _, t_Grid_init, p_Grid_init⟩, ⟨_, _, _, y_Grid_init⟩, ⟨_, w_Grid_init⟩, PySem.W.mg_none_of X G z_super, x_any, x_sT, x_sF⟩, a_Shelf_init := f_Shelf_init, fd_Shelf_init := _, F_Shelf_init := fun_mk (st := s_Shelf_init) l_Shelf_init c_Shelf_init k_Shelf_init, a_Shelf_can_undo := f_Shelf_can_undo, fd_Shelf_can_undo := _, F_Shelf_can_undo := fun_mk (st := s_Shelf_can_undo) l_Shelf_can_undo c_Shelf_can_undo k_Shelf_can_undo, a_Shelf_can_redo := f_Shelf_can_redo, fd_Shelf_can_redo := _, F_Shelf_can_redo := fun_mk (st := s_Shelf_can_redo) l_Shelf_can_redo c_Shelf_can_redo k_Shelf_can_redo, a_Shelf_len := f_Shelf_len, fd_Shelf_len := _, F_Shelf_len := fun_mk (st := s_Shelf_len) l_Shelf_len c_Shelf_len k_Shelf_len, a_Shelf_iter := f_Shelf_iter, fd_Shelf_iter := _, F_Shelf_iter := fun_mk (st := s_Shelf_iter) l_Shelf_iter c_Shelf_iter k_Shelf_iter, a_Shelf_contains := f_Shelf_contains, fd_Shelf_contains := _, F_Shelf_contains := fun_mk (st := s_Shelf_contains) l_Shelf_contains c_Shelf_contains k_Shelf_contains, a_Shelf_getitem := f_Shelf_getitem, fd_Shelf_getitem := _, F_Shelf_getitem := fun_mk (st := s_Shelf_getitem) l_Shelf_getitem c_Shelf_getitem k_Shelf_getitem, a_Shelf_stock := f_Shelf_stock, fd_Shelf_stock := _, F_Shelf_stock := fun_mk (st := s_Shelf_stock) l_Shelf_stock c_Shelf_stock k_Shelf_stock, a_Shelf_done := f_Shelf_done, fd_Shelf_done := _, F_Shelf_done := fun_mk (st := s_Shelf_done) l_Shelf_done c_Shelf_done k_Shelf_done, a_Shelf_hold := f_Shelf_hold, fd_Shelf_hold := _, F_Shelf_hold := fun_mk (st := s_Shelf_hold) l_Shelf_hold c_Shelf_hold k_Shelf_hold, a_Shelf_undo := f_Shelf_undo, fd_Shelf_undo := _, F_Shelf_undo := fun_mk (st := s_Shelf_undo) l_Shelf_undo c_Shelf_undo k_Shelf_undo, n_ValueError := PySem.W.mg_none_of X G z_ValueError, n_abs := PySem.W.mg_none_of X G z_abs, n_bool := PySem.W.mg_none_of X G z_bool, n_enumerate := PySem.W.mg_none_of X G z_enumerate, n_int := PySem.W.mg_none_of X G z_int, n_isinstance := PySem.W.mg_none_of X G z_isinstance, n_iter := PySem.W.mg_none_of X G z_iter, n_len := PySem.W.mg_none_of X G z_len, n_list := PySem.W.mg_none_of X G z_list, n_property := PySem.W.mg_none_of X G z_property, n_range := PySem.W.mg_none_of X G z_range, n_repr := PySem.W.mg_none_of X G z_repr, n_sorted := PySem.W.mg_none_of X G z_sorted, n_staticmethod := PySem.W.mg_none_of X G z_staticmethod, n_str := PySem.W.mg_none_of X G z_str, n_super := PySem.W.mg_none_of X G z_super, n_tuple := PySem.W.mg_none_of X G z_tuple, a_Wheel := C_Wheel, m_Wheel := PySem.W.mg_of X G x_Wheel, a_Exact := C_Exact, m_Exact := PySem.W.mg_of X G x_Exact, a_Grid := C_Grid, m_Grid := PySem.W.mg_of X G x_Grid, a_Shelf := C_Shelf, m_Shelf := PySem.W.mg_of X G x_Shelf, u_MP := .int 1000000000000 tM, m_MP := PySem.W.mg_of X G x_MP, r_MP := ⟨_, rfl⟩, u_ML := .int 8 tL, m_ML := PySem.W.mg_of X G x_ML, r_ML := ⟨_, rfl⟩, u_MN := .int 8 tN, m_MN := PySem.W.mg_of X G x_MN, r_MN := ⟨_, rfl⟩, u_MQ := .int 1000000000000 tQ, m_MQ := PySem.W.mg_of X G x_MQ, r_MQ := ⟨_, rfl⟩, bad := { C := C_BadWheel, f := f_BadWheel_init, fd := _, oex := ⟨⟨_, _, _, _, _, _, _, _, _, _, _, _, _, _, _, zBadWheel_L, zBadWheel_b⟩, zBadWheel_sa, zBadWheel_ex, zBadWheel_ty, zBadWheel_k⟩, iC := a_BadWheel_init, tI := zBadWheel_tI, F := fun_mk (st := s_BadWheel_init) l_BadWheel_init c_BadWheel_init k_BadWheel_init, no := zBadWheel_no0, m := PySem.W.mg_of X G x_BadWheel }, bads := { C := C_BadShelf, f := f_BadShelf_init, fd := _, oex := ⟨⟨_, _, _, _, _, _, _, _, _, _, _, _, _, _, _, zBadShelf_L, zBadShelf_b⟩, zBadShelf_sa, zBadShelf_ex, zBadShelf_ty, zBadShelf_k⟩, iC := a_BadShelf_init, tI := zBadShelf_tI, F := fun_mk (st := s_BadShelf_init) l_BadShelf_init c_BadShelf_init k_BadShelf_init, no := zBadShelf_no0, m := PySem.W.mg_of X G x_BadShelf }, badd := { C := C_BadDeed, f := f_BadDeed_init, fd := _, oex := ⟨⟨_, _, _, _, _, _, _, _, _, _, _, _, _, _, _, zBadDeed_L, zBadDeed_b⟩, zBadDeed_sa, zBadDeed_ex, zBadDeed_ty, zBadDeed_k⟩, iC := a_BadDeed_init, tI := zBadDeed_tI, F := fun_mk (st := s_BadDeed_init) l_BadDeed_init c_BadDeed_init k_BadDeed_init, no := zBadDeed_no0, m := PySem.W.mg_of X G x_BadDeed }, tmany := { C := C_TooMany, f := f_TooMany_init, fd := _, oex := ⟨⟨_, _, _, _, _, _, _, _, _, _, _, _, _, _, _, zTooMany_L, zTooMany_b⟩, zTooMany_sa, zTooMany_ex, zTooMany_ty, zTooMany_k⟩, iC := a_TooMany_init, tI := zTooMany_tI, F := fun_mk (st := s_TooMany_init) l_TooMany_init c_TooMany_init k_TooMany_init, no1 := zTooMany_no0, no2 := zTooMany_no1, m := PySem.W.mg_of X G x_TooMany }, R := C_ReachError, m_R := PySem.W.mg_of X G x_R, scls := y_scls, smk := ⟨y_smakes, a_Shelf_init, y_sfn, y_skp⟩, s_done := ⟨a_Shelf_done, y_fdone, k_Shelf_done⟩, s_hold := ⟨a_Shelf_hold, y_fhold, k_Shelf_hold⟩, s_stock := ⟨a_Shelf_stock, y_fstock, k_Shelf_stock⟩, s_undo := ⟨a_Shelf_undo, y_fundo, k_Shelf_undo⟩, p_can_undo := p_Shelf_can_undo, p_can_redo := p_Shelf_can_redo, pr_undo := ⟨a_Shelf_can_undo, y_pg_can_undo, y_pt_can_undo, ⟨_, r_Shelf_can_undo⟩⟩, pr_redo := ⟨a_Shelf_can_redo, y_pg_can_redo, y_pt_can_redo, ⟨_, r_Shelf_can_redo⟩⟩, s_na := fun y hy => by simp only [List.mem_cons, List.not_mem_nil, or_false] at hy; rcases hy with rfl | rfl | rfl | rfl; exact y_sn0; exact y_sn1; exact y_sn2; exact y_sn3, fi_in := a_Shelf_contains, fn_in := y_fcontains, fi_len := a_Shelf_len, fn_len := y_flen, fi_iter := a_Shelf_iter, fn_iter := y_fiter, fi_get := a_Shelf_getitem, fn_get := y_fgetitem }
  have W : Whl T := {
    W := { w := { w := ⟨yWheel_cls, fun y hy => by simp only [List.mem_cons, List.not_mem_nil, or_false] at hy; rcases hy with rfl | rfl | rfl; exact yWheel_n1; exact yWheel_n2; exact yWheel_n3⟩, con := ⟨.bool false, yWheel_con, rfl, y_gfalse, by decide⟩ }, ty := fun H a dx fs e => .base (.ins e yWheel_cls yWheel_ha x_hn x_ht yWheel_hm), wh := yWheel_kW, mkr := ⟨yWheel_m1, a_Wheel_init, yWheel_m3, yWheel_m4⟩, str := yWheel_str }
    X := { w := { w := ⟨yExact_cls, fun y hy => by simp only [List.mem_cons, List.not_mem_nil, or_false] at hy; rcases hy with rfl | rfl | rfl; exact yExact_n1; exact yExact_n2; exact yExact_n3⟩, con := ⟨.bool false, yExact_con, rfl, y_gfalse, by decide⟩ }, ty := fun H a dx fs e => .base (.ins e yExact_cls yExact_ha x_hn x_ht yExact_hm), wh := yExact_kW, mkr := ⟨yExact_m1, a_Exact_init, yExact_m3, yExact_m4⟩, str := yExact_str }
    G := { w := { w := ⟨yGrid_cls, fun y hy => by simp only [List.mem_cons, List.not_mem_nil, or_false] at hy; rcases hy with rfl | rfl | rfl; exact yGrid_n1; exact yGrid_n2; exact yGrid_n3⟩, con := ⟨.bool true, yGrid_con, rfl, y_gtrue, by decide⟩ }, ty := fun H a dx fs e => .base (.ins e yGrid_cls yGrid_ha x_hn x_ht yGrid_hm), wh := yGrid_kW, mkr := ⟨yGrid_m1, a_Grid_init, yGrid_m3, yGrid_m4⟩, str := yGrid_str }
    sX := ⟨yExact_sub, yExact_sup, ⟨_, w_Exact_init⟩⟩
    sG := ⟨yGrid_sub, yGrid_sup, ⟨_, w_Grid_init⟩⟩
    fnS := y_fstr
    no := fun t ht => by
      simp only [List.mem_cons, List.not_mem_nil, or_false] at ht
      rcases ht with rfl | rfl | rfl
      · exact y_kNoneType
      · exact y_kstr
      · exact y_kint
  }
  have B : Caught T := {
    exS := PySem.W.exm_ref x_Rx x_Rh x_Rt zBadShelf_RC
    exM := PySem.W.exm_ref x_Rx x_Rh x_Rt zTooMany_RC
    sbS := zBadShelf_ex
    sbM := zTooMany_ex
    exD := PySem.W.exm_ref zBadDeed_ex zBadDeed_hd zBadDeed_ty zBadDeed_self
    eD := ⟨zBadDeed_cl, zBadDeed_ga, zBadDeed_gg, zBadDeed_ex, zBadDeed_hd, zBadDeed_ha, x_hn, x_ht, zBadDeed_hm⟩
    kR := zBadDeed_kR
    kV := zBadDeed_kV
    kS := zBadDeed_kS }
  refine ⟨[], spLaw K, fun p hp => absurd hp List.not_mem_nil, fun p hp => absurd hp List.not_mem_nil, fun p hp => absurd hp List.not_mem_nil, fun H a ns hl hb tt hS => ⟨a, ns, rfl, hS, hl, fun _ => rfl⟩, fun base KB NB TBs => ok_law HP T W B⟩
end My
open PySem PySem.W PyProof.Rows in
set_option maxRecDepth 100000 in
set_option maxHeartbeats 0 in
theorem PySem.Challenge.cw_wheelreach_k80_rows_stocked_holds : PySem.Challenge.rw_wheelreach_k80_rows_stocked.Holds := by
  w_on; o_law; k_head; (case hw => w_witness2)
  k_fill
  refine My.walkG (l := PySem.Challenge.rw_wheelreach_k80_rows_stocked) (k := 10) [] (by decide +kernel) rfl rfl ⟨rfl, by decide, by decide⟩ (fun w h Y => PySem.W.kIn_of Y) ?F
  case F =>
    intro w mg fa h KX G hmg tabs
    refine' My.all_mk KX G hmg tabs ?a_is_whole ?l_is_whole ?c_is_whole ?k_is_whole ?a_is_between ?l_is_between ?c_is_between ?k_is_between ?a_is_name ?l_is_name ?c_is_name ?k_is_name ?a_need_part ?l_need_part ?c_need_part ?k_need_part ?a_with_item ?l_with_item ?c_with_item ?k_with_item ?a_with_row ?l_with_row ?c_with_row ?k_with_row ?a_pen ?l_pen ?c_pen ?k_pen ?a_draw ?l_draw ?c_draw ?k_draw ?a_pick ?l_pick ?c_pick ?k_pick ?a_name ?l_name ?c_name ?k_name ?a_state ?l_state ?c_state ?k_state ?a_with ?l_with ?c_with ?k_with ?a_stock ?l_stock ?c_stock ?k_stock ?a_row ?l_row ?c_row ?k_row ?a_bad ?l_bad ?c_bad ?k_bad ?a_first_bad ?l_first_bad ?c_first_bad ?k_first_bad ?a_right ?l_right ?c_right ?k_right ?a_law ?l_law ?c_law ?k_law ?a_BadWheel_init ?l_BadWheel_init ?c_BadWheel_init ?k_BadWheel_init ?a_BadShelf_init ?l_BadShelf_init ?c_BadShelf_init ?k_BadShelf_init ?a_BadDeed_init ?l_BadDeed_init ?c_BadDeed_init ?k_BadDeed_init ?a_TooMany_init ?l_TooMany_init ?c_TooMany_init ?k_TooMany_init ?a_Wheel_init ?l_Wheel_init ?c_Wheel_init ?k_Wheel_init ?a_Wheel_str ?l_Wheel_str ?c_Wheel_str ?k_Wheel_str ?a_Exact_init ?l_Exact_init ?c_Exact_init ?k_Exact_init ?t_Exact_init ?p_Exact_init ?y_Exact_init ?w_Exact_init ?a_Grid_init ?l_Grid_init ?c_Grid_init ?k_Grid_init ?t_Grid_init ?p_Grid_init ?y_Grid_init ?w_Grid_init ?a_Shelf_init ?l_Shelf_init ?c_Shelf_init ?k_Shelf_init ?a_Shelf_can_undo ?r_Shelf_can_undo ?l_Shelf_can_undo ?c_Shelf_can_undo ?k_Shelf_can_undo ?a_Shelf_can_redo ?r_Shelf_can_redo ?l_Shelf_can_redo ?c_Shelf_can_redo ?k_Shelf_can_redo ?a_Shelf_len ?l_Shelf_len ?c_Shelf_len ?k_Shelf_len ?a_Shelf_iter ?l_Shelf_iter ?c_Shelf_iter ?k_Shelf_iter ?a_Shelf_contains ?l_Shelf_contains ?c_Shelf_contains ?k_Shelf_contains ?a_Shelf_getitem ?l_Shelf_getitem ?c_Shelf_getitem ?k_Shelf_getitem ?a_Shelf_stock ?l_Shelf_stock ?c_Shelf_stock ?k_Shelf_stock ?a_Shelf_done ?l_Shelf_done ?c_Shelf_done ?k_Shelf_done ?a_Shelf_hold ?l_Shelf_hold ?c_Shelf_hold ?k_Shelf_hold ?a_Shelf_undo ?l_Shelf_undo ?c_Shelf_undo ?k_Shelf_undo ?z_ValueError ?z_abs ?z_bool ?z_enumerate ?z_int ?z_isinstance ?z_iter ?z_len ?z_list ?z_property ?z_range ?z_repr ?z_sorted ?z_staticmethod ?z_str ?z_super ?z_tuple ?x_R ?x_MP ?x_ML ?x_MN ?x_MQ ?x_Wheel ?x_Exact ?x_Grid ?x_Shelf ?x_BadWheel ?x_BadShelf ?x_BadDeed ?x_TooMany ?x_pf ?x_pt ?x_any ?x_sT ?x_sF ?x_hn ?x_ht ?x_Rx ?x_Rh ?x_Rt ?zBadWheel_L ?zBadWheel_b ?zBadWheel_sa ?zBadWheel_ex ?zBadWheel_ty ?zBadWheel_k ?zBadWheel_tI ?zBadWheel_no0 ?zBadShelf_L ?zBadShelf_b ?zBadShelf_sa ?zBadShelf_ex ?zBadShelf_ty ?zBadShelf_k ?zBadShelf_tI ?zBadShelf_RC ?zBadShelf_no0 ?zBadDeed_L ?zBadDeed_b ?zBadDeed_sa ?zBadDeed_ex ?zBadDeed_ty ?zBadDeed_k ?zBadDeed_tI ?zBadDeed_cl ?zBadDeed_ga ?zBadDeed_gg ?zBadDeed_hd ?zBadDeed_ha ?zBadDeed_hm ?zBadDeed_self ?zBadDeed_kR ?zBadDeed_kV ?zBadDeed_kS ?zBadDeed_no0 ?zTooMany_L ?zTooMany_b ?zTooMany_sa ?zTooMany_ex ?zTooMany_ty ?zTooMany_k ?zTooMany_tI ?zTooMany_RC ?zTooMany_no0 ?zTooMany_no1 ?y_gfalse ?y_gtrue ?y_fstr ?y_kNoneType ?y_kstr ?y_kint ?y_sn0 ?y_sn1 ?y_sn2 ?y_sn3 ?y_scls ?y_smakes ?y_sfn ?y_skp ?y_fdone ?y_fhold ?y_fstock ?y_fundo ?y_fcontains ?y_flen ?y_fiter ?y_fgetitem ?y_pg_can_undo ?y_pt_can_undo ?y_pg_can_redo ?y_pt_can_redo ?yWheel_cls ?yWheel_n1 ?yWheel_n2 ?yWheel_n3 ?yWheel_con ?yWheel_m1 ?yWheel_m3 ?yWheel_m4 ?yWheel_str ?yWheel_ha ?yWheel_hm ?yWheel_kW ?yExact_cls ?yExact_n1 ?yExact_n2 ?yExact_n3 ?yExact_con ?yExact_m1 ?yExact_m3 ?yExact_m4 ?yExact_str ?yExact_ha ?yExact_hm ?yExact_kW ?yExact_sub ?yExact_sup ?yGrid_cls ?yGrid_n1 ?yGrid_n2 ?yGrid_n3 ?yGrid_con ?yGrid_m1 ?yGrid_m3 ?yGrid_m4 ?yGrid_str ?yGrid_ha ?yGrid_hm ?yGrid_kW ?yGrid_sub ?yGrid_sup
    (case x_R => k_is)
    (case x_MP => k_is)
    (case x_ML => k_is)
    (case x_MN => k_is)
    (case x_MQ => k_is)
    (case x_Wheel => k_is)
    (case x_Exact => k_is)
    (case x_Grid => k_is)
    (case x_Shelf => k_is)
    (case x_BadWheel => k_is)
    (case x_BadShelf => k_is)
    (case x_BadDeed => k_is)
    (case x_TooMany => k_is)
    (case a_is_whole => k_is)
    (case l_is_whole => k_is)
    (case c_is_whole => k_is)
    (case k_is_whole => k_is)
    (case a_is_between => k_is)
    (case l_is_between => k_is)
    (case c_is_between => k_is)
    (case k_is_between => k_is)
    (case a_is_name => k_is)
    (case l_is_name => k_is)
    (case c_is_name => k_is)
    (case k_is_name => k_is)
    (case a_need_part => k_is)
    (case l_need_part => k_is)
    (case c_need_part => k_is)
    (case k_need_part => k_is)
    (case a_with_item => k_is)
    (case l_with_item => k_is)
    (case c_with_item => k_is)
    (case k_with_item => k_is)
    (case a_with_row => k_is)
    (case l_with_row => k_is)
    (case c_with_row => k_is)
    (case k_with_row => k_is)
    (case a_pen => k_is)
    (case l_pen => k_is)
    (case c_pen => k_is)
    (case k_pen => k_is)
    (case a_draw => k_is)
    (case l_draw => k_is)
    (case c_draw => k_is)
    (case k_draw => k_is)
    (case a_pick => k_is)
    (case l_pick => k_is)
    (case c_pick => k_is)
    (case k_pick => k_is)
    (case a_name => k_is)
    (case l_name => k_is)
    (case c_name => k_is)
    (case k_name => k_is)
    (case a_state => k_is)
    (case l_state => k_is)
    (case c_state => k_is)
    (case k_state => k_is)
    (case a_with => k_is)
    (case l_with => k_is)
    (case c_with => k_is)
    (case k_with => k_is)
    (case a_stock => k_is)
    (case l_stock => k_is)
    (case c_stock => k_is)
    (case k_stock => k_is)
    (case a_row => k_is)
    (case l_row => k_is)
    (case c_row => k_is)
    (case k_row => k_is)
    (case a_bad => k_is)
    (case l_bad => k_is)
    (case c_bad => k_is)
    (case k_bad => k_is)
    (case a_first_bad => k_is)
    (case l_first_bad => k_is)
    (case c_first_bad => k_is)
    (case k_first_bad => k_is)
    (case a_right => k_is)
    (case l_right => k_is)
    (case c_right => k_is)
    (case k_right => k_is)
    (case a_law => k_is)
    (case l_law => k_is)
    (case c_law => k_is)
    (case k_law => k_is)
    (case a_BadWheel_init => k_is)
    (case l_BadWheel_init => k_is)
    (case c_BadWheel_init => k_is)
    (case k_BadWheel_init => k_is)
    (case a_BadShelf_init => k_is)
    (case l_BadShelf_init => k_is)
    (case c_BadShelf_init => k_is)
    (case k_BadShelf_init => k_is)
    (case a_BadDeed_init => k_is)
    (case l_BadDeed_init => k_is)
    (case c_BadDeed_init => k_is)
    (case k_BadDeed_init => k_is)
    (case a_TooMany_init => k_is)
    (case l_TooMany_init => k_is)
    (case c_TooMany_init => k_is)
    (case k_TooMany_init => k_is)
    (case a_Wheel_init => k_is)
    (case l_Wheel_init => k_is)
    (case c_Wheel_init => k_is)
    (case k_Wheel_init => k_is)
    (case a_Wheel_str => k_is)
    (case l_Wheel_str => k_is)
    (case c_Wheel_str => k_is)
    (case k_Wheel_str => k_is)
    (case a_Exact_init => k_is)
    (case l_Exact_init => k_is)
    (case c_Exact_init => k_is)
    (case k_Exact_init => k_is)
    (case t_Exact_init => k_is)
    (case p_Exact_init => first | rfl | k_is | decide +kernel)
    (case y_Exact_init => k_is)
    (case w_Exact_init => k_is)
    (case a_Grid_init => k_is)
    (case l_Grid_init => k_is)
    (case c_Grid_init => k_is)
    (case k_Grid_init => k_is)
    (case t_Grid_init => k_is)
    (case p_Grid_init => first | rfl | k_is | decide +kernel)
    (case y_Grid_init => k_is)
    (case w_Grid_init => k_is)
    (case a_Shelf_init => k_is)
    (case l_Shelf_init => k_is)
    (case c_Shelf_init => k_is)
    (case k_Shelf_init => k_is)
    (case a_Shelf_can_undo => k_is)
    (case r_Shelf_can_undo => k_is)
    (case l_Shelf_can_undo => k_is)
    (case c_Shelf_can_undo => k_is)
    (case k_Shelf_can_undo => k_is)
    (case a_Shelf_can_redo => k_is)
    (case r_Shelf_can_redo => k_is)
    (case l_Shelf_can_redo => k_is)
    (case c_Shelf_can_redo => k_is)
    (case k_Shelf_can_redo => k_is)
    (case a_Shelf_len => k_is)
    (case l_Shelf_len => k_is)
    (case c_Shelf_len => k_is)
    (case k_Shelf_len => k_is)
    (case a_Shelf_iter => k_is)
    (case l_Shelf_iter => k_is)
    (case c_Shelf_iter => k_is)
    (case k_Shelf_iter => k_is)
    (case a_Shelf_contains => k_is)
    (case l_Shelf_contains => k_is)
    (case c_Shelf_contains => k_is)
    (case k_Shelf_contains => k_is)
    (case a_Shelf_getitem => k_is)
    (case l_Shelf_getitem => k_is)
    (case c_Shelf_getitem => k_is)
    (case k_Shelf_getitem => k_is)
    (case a_Shelf_stock => k_is)
    (case l_Shelf_stock => k_is)
    (case c_Shelf_stock => k_is)
    (case k_Shelf_stock => k_is)
    (case a_Shelf_done => k_is)
    (case l_Shelf_done => k_is)
    (case c_Shelf_done => k_is)
    (case k_Shelf_done => k_is)
    (case a_Shelf_hold => k_is)
    (case l_Shelf_hold => k_is)
    (case c_Shelf_hold => k_is)
    (case k_Shelf_hold => k_is)
    (case a_Shelf_undo => k_is)
    (case l_Shelf_undo => k_is)
    (case c_Shelf_undo => k_is)
    (case k_Shelf_undo => k_is)
    (case z_ValueError => k_is)
    (case z_abs => k_is)
    (case z_bool => k_is)
    (case z_enumerate => k_is)
    (case z_int => k_is)
    (case z_isinstance => k_is)
    (case z_iter => k_is)
    (case z_len => k_is)
    (case z_list => k_is)
    (case z_property => k_is)
    (case z_range => k_is)
    (case z_repr => k_is)
    (case z_sorted => k_is)
    (case z_staticmethod => k_is)
    (case z_str => k_is)
    (case z_super => k_is)
    (case z_tuple => k_is)
    (case x_pf => first | rfl | decide +kernel)
    (case x_pt => first | rfl | decide +kernel)
    (case x_any => first | k_is | rfl | decide +kernel)
    (case x_sT => first | k_is | rfl | decide +kernel)
    (case x_sF => first | k_is | rfl | decide +kernel)
    (case x_hn => k_is)
    (case x_ht => k_is)
    (case x_Rx => k_is)
    (case x_Rh => k_is)
    (case x_Rt => k_is)
    (case zBadWheel_L => k_is)
    (case zBadWheel_b => first | rfl | decide +kernel)
    (case zBadWheel_sa => k_is)
    (case zBadWheel_ex => k_is)
    (case zBadWheel_ty => k_is)
    (case zBadWheel_k => k_is)
    (case zBadWheel_tI => k_is)
    (case zBadWheel_no0 => k_is)
    (case zBadShelf_L => k_is)
    (case zBadShelf_b => first | rfl | decide +kernel)
    (case zBadShelf_sa => k_is)
    (case zBadShelf_ex => k_is)
    (case zBadShelf_ty => k_is)
    (case zBadShelf_k => k_is)
    (case zBadShelf_tI => k_is)
    (case zBadShelf_RC => first | k_is | rfl | decide +kernel)
    (case zBadShelf_no0 => k_is)
    (case zBadDeed_L => k_is)
    (case zBadDeed_b => first | rfl | decide +kernel)
    (case zBadDeed_sa => k_is)
    (case zBadDeed_ex => k_is)
    (case zBadDeed_ty => k_is)
    (case zBadDeed_k => k_is)
    (case zBadDeed_tI => k_is)
    (case zBadDeed_cl => k_is)
    (case zBadDeed_ga => k_is)
    (case zBadDeed_gg => k_is)
    (case zBadDeed_hd => k_is)
    (case zBadDeed_ha => k_is)
    (case zBadDeed_hm => k_is)
    (case zBadDeed_self => first | k_is | rfl | decide +kernel)
    (case zBadDeed_kR => first | k_is | rfl | decide +kernel)
    (case zBadDeed_kV => first | k_is | rfl | decide +kernel)
    (case zBadDeed_kS => first | k_is | rfl | decide +kernel)
    (case zBadDeed_no0 => k_is)
    (case zTooMany_L => k_is)
    (case zTooMany_b => first | rfl | decide +kernel)
    (case zTooMany_sa => k_is)
    (case zTooMany_ex => k_is)
    (case zTooMany_ty => k_is)
    (case zTooMany_k => k_is)
    (case zTooMany_tI => k_is)
    (case zTooMany_RC => first | k_is | rfl | decide +kernel)
    (case zTooMany_no0 => k_is)
    (case zTooMany_no1 => k_is)
    (case y_gfalse => first | k_is | rfl | decide +kernel)
    (case y_gtrue => first | k_is | rfl | decide +kernel)
    (case y_fstr => first | k_is | rfl | decide +kernel)
    (case y_kNoneType => first | k_is | rfl | decide +kernel)
    (case y_kstr => first | k_is | rfl | decide +kernel)
    (case y_kint => first | k_is | rfl | decide +kernel)
    (case y_sn0 => show PySem.W.findIn _ _ _ = _; k_is)
    (case y_sn1 => show PySem.W.findIn _ _ _ = _; k_is)
    (case y_sn2 => show PySem.W.findIn _ _ _ = _; k_is)
    (case y_sn3 => show PySem.W.findIn _ _ _ = _; k_is)
    (case y_scls => exact ⟨by k_is, by k_is, by k_is, by k_is⟩)
    (case y_smakes => first | k_is | rfl | decide +kernel)
    (case y_sfn => first | k_is | rfl | decide +kernel)
    (case y_skp => first | k_is | rfl | decide +kernel)
    (case y_fdone => first | k_is | rfl | decide +kernel)
    (case y_fhold => first | k_is | rfl | decide +kernel)
    (case y_fstock => first | k_is | rfl | decide +kernel)
    (case y_fundo => first | k_is | rfl | decide +kernel)
    (case y_fcontains => first | k_is | rfl | decide +kernel)
    (case y_flen => first | k_is | rfl | decide +kernel)
    (case y_fiter => first | k_is | rfl | decide +kernel)
    (case y_fgetitem => first | k_is | rfl | decide +kernel)
    (case y_pg_can_undo => first | k_is | rfl | decide +kernel)
    (case y_pt_can_undo => first | k_is | rfl | decide +kernel)
    (case y_pg_can_redo => first | k_is | rfl | decide +kernel)
    (case y_pt_can_redo => first | k_is | rfl | decide +kernel)
    (case yWheel_cls => exact ⟨by k_is, by k_is, by k_is, by k_is⟩)
    (case yWheel_n1 => show PySem.W.findIn _ _ _ = _; k_is)
    (case yWheel_n2 => show PySem.W.findIn _ _ _ = _; k_is)
    (case yWheel_n3 => show PySem.W.findIn _ _ _ = _; k_is)
    (case yWheel_con => first | k_is | rfl | decide +kernel)
    (case yWheel_m1 => first | k_is | rfl | decide +kernel)
    (case yWheel_m3 => first | k_is | rfl | decide +kernel)
    (case yWheel_m4 => first | k_is | rfl | decide +kernel)
    (case yWheel_str => first | k_is | rfl | decide +kernel)
    (case yWheel_ha => first | k_is | rfl | decide +kernel)
    (case yWheel_hm => first | k_is | rfl | decide +kernel)
    (case yWheel_kW => first | k_is | rfl | decide +kernel)
    (case yExact_cls => exact ⟨by k_is, by k_is, by k_is, by k_is⟩)
    (case yExact_n1 => show PySem.W.findIn _ _ _ = _; k_is)
    (case yExact_n2 => show PySem.W.findIn _ _ _ = _; k_is)
    (case yExact_n3 => show PySem.W.findIn _ _ _ = _; k_is)
    (case yExact_con => first | k_is | rfl | decide +kernel)
    (case yExact_m1 => first | k_is | rfl | decide +kernel)
    (case yExact_m3 => first | k_is | rfl | decide +kernel)
    (case yExact_m4 => first | k_is | rfl | decide +kernel)
    (case yExact_str => first | k_is | rfl | decide +kernel)
    (case yExact_ha => first | k_is | rfl | decide +kernel)
    (case yExact_hm => first | k_is | rfl | decide +kernel)
    (case yExact_kW => first | k_is | rfl | decide +kernel)
    (case yExact_sub => first | k_is | rfl | decide +kernel)
    (case yExact_sup => first | k_is | rfl | decide +kernel)
    (case yGrid_cls => exact ⟨by k_is, by k_is, by k_is, by k_is⟩)
    (case yGrid_n1 => show PySem.W.findIn _ _ _ = _; k_is)
    (case yGrid_n2 => show PySem.W.findIn _ _ _ = _; k_is)
    (case yGrid_n3 => show PySem.W.findIn _ _ _ = _; k_is)
    (case yGrid_con => first | k_is | rfl | decide +kernel)
    (case yGrid_m1 => first | k_is | rfl | decide +kernel)
    (case yGrid_m3 => first | k_is | rfl | decide +kernel)
    (case yGrid_m4 => first | k_is | rfl | decide +kernel)
    (case yGrid_str => first | k_is | rfl | decide +kernel)
    (case yGrid_ha => first | k_is | rfl | decide +kernel)
    (case yGrid_hm => first | k_is | rfl | decide +kernel)
    (case yGrid_kW => first | k_is | rfl | decide +kernel)
    (case yGrid_sub => first | k_is | rfl | decide +kernel)
    (case yGrid_sup => first | k_is | rfl | decide +kernel)
