import PyProof.Rows.All
import Wide.All
import OpenK.AllK
import Wide.FinOn
import HandS.Walk
import KE.DatumOrd
import KE.KDictZip
import KE.GoesMore
import HandS.ForMost
import HandS.ForExc
import HandS.Star
import HandS.Gcd
import HandS.Wide
import HandS.IsInst
import HandS.Style
import HandS.Codes
import HandS.Sort
import HandS.TupAny
import HandS.OwnEq
import HandS.ClsMeth
import HandS.MakeKw
import HandS.MakeKwOnly
import HandS.IterVal
import HandS.Lambda
import KE.KOwnIter
import HandS.EndTab
import KE.KExcIs
import KE.DataMinMax
import HandS.AnyAll
import HandS.Zip
import HandS.Property
import HandS.ExcInit
import HandS.ExcIs
import HandS.WordsExc
import KE.KSuper
import HandS.FStr
import HandS.Text
import HandS.StrMore
import HandS.StrSplit
import KE.KOpsOwn
import HandS.Steps
import HandS.Flow
import PySem.Challenge.RW_wheelreach_k25_wheels_changed_and_writte
set_option Elab.async false
set_option linter.all false
set_option maxRecDepth 100000
set_option maxHeartbeats 4000000
/-! Numbers: divisors, multiples, remainders put together, as plain functions, and what holds of them. -/
namespace NM

/-! ### common, multiple -/
def gcdL (ns : List Int) : Nat := ns.foldl (fun g n => Nat.gcd g n.natAbs) 0
def lcmL (ns : List Int) : Nat := ns.foldl (fun g n => Nat.lcm g n.natAbs) 1
theorem gcdL_snoc (l : List Int) (z : Int) : gcdL (l ++ [z]) = Nat.gcd (gcdL l) z.natAbs := by
  unfold gcdL; rw [List.foldl_append]; rfl
theorem lcmL_snoc (l : List Int) (z : Int) : lcmL (l ++ [z]) = Nat.lcm (lcmL l) z.natAbs := by
  unfold lcmL; rw [List.foldl_append]; rfl
theorem take_snoc {α : Type} : ∀ {l : List α} {i : Nat} {x : α}, l[i]? = some x → l.take (i + 1) = l.take i ++ [x]
  | [], i, x, h => by simp at h
  | a :: l, 0, x, h => by
    have e : a = x := Option.some.inj h
    subst e
    rfl
  | a :: l, i + 1, x, h => by
    have ih := take_snoc (l := l) (i := i) (x := x) h
    show a :: l.take (i + 1) = a :: l.take i ++ [x]
    rw [ih]
    rfl
theorem lcm_step {f n : Int} (hf : 0 < f) (hn : 0 < n) : f / ((Nat.gcd f.natAbs n.natAbs : Nat) : Int) * n = ((Nat.lcm f.natAbs n.natAbs : Nat) : Int) := by
  obtain ⟨a, rfl⟩ : ∃ a : Nat, f = (a : Int) := ⟨f.toNat, by omega⟩
  obtain ⟨b, rfl⟩ : ∃ b : Nat, n = (b : Int) := ⟨n.toNat, by omega⟩
  simp only [Int.natAbs_natCast]
  have h := Nat.gcd_dvd_left a b
  rw [← Int.natCast_ediv, ← Int.natCast_mul]
  congr 1
  unfold Nat.lcm
  rw [Nat.mul_comm (a / _) b, Nat.mul_comm a b, Nat.mul_div_assoc _ h]
theorem lcmL_pos {l : List Int} (h : ∀ z ∈ l, 0 < z) : 0 < lcmL l := by
  unfold lcmL
  suffices ∀ (l : List Int) (a : Nat), 0 < a → (∀ z ∈ l, 0 < z) → 0 < l.foldl (fun g n => Nat.lcm g n.natAbs) a from this l 1 (by decide) h
  intro l
  induction l with
  | nil => intro a ha _; exact ha
  | cons z l ih =>
    intro a ha h
    refine ih _ ?_ (fun y hy => h y (List.mem_cons_of_mem _ hy))
    have hz := h z List.mem_cons_self
    exact Nat.lcm_pos ha (by omega)
theorem lcm_le_mul {a b : Nat} (ha : 0 < a) (hb : 0 < b) : Nat.lcm a b ≤ a * b := Nat.le_of_dvd (Nat.mul_pos ha hb) (Nat.lcm_dvd_mul a b)

/-! ### how far from a multiple -/
def apartI (d p : Int) : Int := if p - d % p < d % p then p - d % p else d % p
theorem apart_nn {d p : Int} (hp : 0 < p) : 0 ≤ apartI d p := by
  unfold apartI
  have h1 := Int.emod_nonneg d (show p ≠ 0 by omega)
  have h2 := Int.emod_lt_of_pos d hp
  split <;> omega
theorem apart_half {d p : Int} (hp : 0 < p) : 2 * apartI d p ≤ p := by
  unfold apartI
  have h1 := Int.emod_nonneg d (show p ≠ 0 by omega)
  have h2 := Int.emod_lt_of_pos d hp
  split <;> omega
/-- the nearest multiple is that far away -/
theorem apart_at {d p : Int} (hp : 0 < p) : ∃ k, d = p * k + apartI d p ∨ d = p * k - apartI d p := by
  have e := Int.mul_ediv_add_emod d p
  unfold apartI
  split
  · refine ⟨d / p + 1, .inr ?_⟩
    rw [Int.mul_add]; omega
  · exact ⟨d / p, .inl (by omega)⟩
/-- no multiple is nearer -/
theorem apart_le {d p : Int} (hp : 0 < p) (k a : Int) (h : d = p * k + a) : apartI d p ≤ (a.natAbs : Int) := by
  have e1 : d % p = a % p := by rw [h, Int.add_comm, Int.add_mul_emod_self_left]
  have h1 := Int.emod_nonneg a (show p ≠ 0 by omega)
  have h2 := Int.emod_lt_of_pos a hp
  have e := Int.mul_ediv_add_emod a p
  unfold apartI
  rw [e1]
  by_cases h0 : 0 ≤ a
  · have : a % p ≤ a := by
      have : 0 ≤ a / p := Int.ediv_nonneg h0 (by omega)
      have := Int.mul_nonneg (show 0 ≤ p by omega) this
      omega
    split <;> omega
  · have hq : a / p ≤ -1 := by
      have := Int.ediv_lt_of_lt_mul hp (show a < 0 * p by omega)
      omega
    have : p * (a / p) ≤ p * (-1) := Int.mul_le_mul_of_nonneg_left hq (by omega)
    split <;> omega
theorem apart_neg {d p : Int} (hp : 0 < p) : apartI (-d) p = apartI d p := by
  have aux : ∀ x : Int, apartI (-x) p ≤ apartI x p := fun x => by
    obtain ⟨k, h | h⟩ := apart_at (d := x) hp
    · have := apart_le (d := -x) hp (-k) (-apartI x p) (by rw [Int.mul_neg]; omega)
      have := apart_nn (d := x) hp
      omega
    · have := apart_le (d := -x) hp (-k) (apartI x p) (by rw [Int.mul_neg]; omega)
      have := apart_nn (d := x) hp
      omega
  have h1 := aux d
  have h2 := aux (-d)
  rw [Int.neg_neg] at h2
  omega
theorem apart_round {d p : Int} (hp : 0 < p) (k : Int) : apartI (d + p * k) p = apartI d p := by
  unfold apartI
  rw [Int.add_mul_emod_self_left]
theorem apart_tri {d e p : Int} (hp : 0 < p) : apartI (d + e) p ≤ apartI d p + apartI e p := by
  have n1 := apart_nn (d := d) hp
  have n2 := apart_nn (d := e) hp
  obtain ⟨k, h⟩ := apart_at (d := d) hp
  obtain ⟨l, g⟩ := apart_at (d := e) hp
  have fin : ∀ a : Int, d + e = p * (k + l) + a → (a.natAbs : Int) ≤ apartI d p + apartI e p → apartI (d + e) p ≤ apartI d p + apartI e p := fun a ha hb =>
    Int.le_trans (apart_le hp (k + l) a ha) hb
  have ex : p * (k + l) = p * k + p * l := Int.mul_add _ _ _
  rcases h with h | h <;> rcases g with g | g
  · exact fin (apartI d p + apartI e p) (by rw [ex]; omega) (by omega)
  · exact fin (apartI d p - apartI e p) (by rw [ex]; omega) (by omega)
  · exact fin (-apartI d p + apartI e p) (by rw [ex]; omega) (by omega)
  · exact fin (-apartI d p - apartI e p) (by rw [ex]; omega) (by omega)
theorem apart_mult {p k : Int} (hp : 0 < p) : apartI (p * k) p = 0 := by
  unfold apartI
  rw [Int.mul_emod_right]
  split <;> omega
theorem apart_self {p : Int} (hp : 0 < p) : apartI p p = 0 := by
  have h := apart_mult (k := 1) hp
  rwa [Int.mul_one] at h
theorem apart_reach {d p : Int} (hp : 0 < p) : apartI (d - apartI d p) p = 0 ∨ apartI (d + apartI d p) p = 0 := by
  obtain ⟨k, h | h⟩ := apart_at (d := d) hp
  · left
    have e : d - apartI d p = p * k := by omega
    rw [e]; exact apart_mult hp
  · right
    have e : d + apartI d p = p * k := by omega
    rw [e]; exact apart_mult hp

theorem gcd_emod (a b : Int) : Int.gcd (a % b) b = Int.gcd a b := by
  have e := Int.mul_ediv_add_emod a b
  have h : a % b = a - a / b * b := by rw [Int.mul_comm]; omega
  rw [h]; exact Int.gcd_sub_mul_right_left _ _ _
/-! ### the inverse, by Euclid's division -/
structure Euc (number divisor left right found following : Int) : Prop where
  l : 0 < left
  r : 0 ≤ right
  rl : right < left ∨ left = divisor
  le : left ≤ divisor
  rd : right < divisor
  g : Nat.gcd left.natAbs right.natAbs = Nat.gcd divisor.natAbs number.natAbs
  c1 : divisor ∣ found * number - left
  c2 : divisor ∣ following * number - right
  s : (found ≤ 0 ∧ 0 ≤ following ∧ left * following - right * found = divisor) ∨ (0 ≤ found ∧ following ≤ 0 ∧ right * found - left * following = divisor)
theorem Euc.start {number divisor : Int} (hd : 0 < divisor) : Euc number divisor divisor (number % divisor) 0 1 where
  l := hd
  r := Int.emod_nonneg _ (by omega)
  rl := .inr rfl
  le := Int.le_refl _
  rd := Int.emod_lt_of_pos _ hd
  g := by
    have e := Int.mul_ediv_add_emod number divisor
    have h : ((Nat.gcd divisor.natAbs (number % divisor).natAbs : Nat) : Int) = ((Nat.gcd divisor.natAbs number.natAbs : Nat) : Int) := by
      show ((Int.gcd divisor (number % divisor) : Nat) : Int) = ((Int.gcd divisor number : Nat) : Int)
      congr 1
      rw [Int.gcd_comm, Int.gcd_comm divisor number]
      exact gcd_emod _ _
    exact Int.natCast_inj.mp h
  c1 := ⟨-1, by omega⟩
  c2 := by
    have e := Int.mul_ediv_add_emod number divisor
    exact ⟨number / divisor, by omega⟩
  s := .inl ⟨Int.le_refl _, by omega, by omega⟩
theorem Euc.turn {number divisor left right found following : Int} (E : Euc number divisor left right found following) (h : right ≠ 0) :
    Euc number divisor right (left - left / right * right) following (found - left / right * following) := by
  have hr : 0 < right := by have := E.r; omega
  have e := Int.mul_ediv_add_emod left right
  have em : left - left / right * right = left % right := by rw [Int.mul_comm]; omega
  have h1 := Int.emod_nonneg left (show right ≠ 0 by omega)
  have h2 := Int.emod_lt_of_pos left hr
  have hq : 0 ≤ left / right := Int.ediv_nonneg (Int.le_of_lt E.l) (by omega)
  have lrd := E.rd
  refine ⟨hr, by omega, .inl (by omega), by omega, by omega, ?_, E.c2, ?_, ?_⟩
  · rw [← E.g, em]
    show Int.gcd right (left % right) = Int.gcd left right
    rw [Int.gcd_comm]
    exact gcd_emod _ _
  · obtain ⟨a, ha⟩ := E.c1
    obtain ⟨b, hb⟩ := E.c2
    refine ⟨a - left / right * b, ?_⟩
    rw [Int.sub_mul, Int.mul_sub]
    have x1 : left / right * following * number = left / right * (following * number) := Int.mul_assoc _ _ _
    have x2 : divisor * (left / right * b) = left / right * (divisor * b) := by rw [← Int.mul_assoc, Int.mul_comm divisor, Int.mul_assoc]
    rw [x1, x2, ← hb, ← ha, Int.mul_sub]
    omega
  · have hm : ∀ x : Int, 0 ≤ x → 0 ≤ left / right * x := fun x hx => Int.mul_nonneg hq hx
    have hn : ∀ x : Int, x ≤ 0 → left / right * x ≤ 0 := fun x hx => by
      have := Int.mul_nonneg hq (show 0 ≤ -x by omega)
      rw [Int.mul_neg] at this
      omega
    have y1 : right * (found - left / right * following) = right * found - right * (left / right * following) := Int.mul_sub _ _ _
    have y2 : (left - left / right * right) * following = left * following - left / right * right * following := Int.sub_mul _ _ _
    have y3 : left / right * right * following = right * (left / right * following) := by rw [Int.mul_comm (left / right) right, Int.mul_assoc]
    rcases E.s with ⟨s1, s2, s3⟩ | ⟨s1, s2, s3⟩
    · refine .inr ⟨s2, by have := hm _ s2; omega, ?_⟩
      rw [y1, y2, y3]; omega
    · refine .inl ⟨s2, by have := hn _ s2; omega, ?_⟩
      rw [y1, y2, y3]; omega
theorem Euc.less {number divisor left right found following : Int} (E : Euc number divisor left right found following) (h : right ≠ 0) : (left - left / right * right).toNat < right.toNat := by
  have hr : 0 < right := by have := E.r; omega
  have e := Int.mul_ediv_add_emod left right
  have em : left - left / right * right = left % right := by rw [Int.mul_comm]; omega
  have h1 := Int.emod_nonneg left (show right ≠ 0 by omega)
  have h2 := Int.emod_lt_of_pos left hr
  omega
/-- the sizes -/
theorem Euc.size {number divisor left right found following : Int} (E : Euc number divisor left right found following) : following.natAbs ≤ divisor.natAbs ∧ (right ≠ 0 → found.natAbs ≤ divisor.natAbs) := by
  have l := E.l
  have r := E.r
  have key : ∀ a b c e : Int, 0 < a → 0 ≤ b → 0 ≤ c → 0 ≤ e → a * c + b * e = divisor → c ≤ divisor ∧ (b ≠ 0 → e ≤ divisor) := fun a b c e ha hb hc he h => by
    have p1 := Int.mul_nonneg hb he
    have p2 : c ≤ a * c := by
      have := Int.mul_le_mul_of_nonneg_right (show 1 ≤ a by omega) hc
      omega
    refine ⟨by omega, fun hb0 => ?_⟩
    have p3 : e ≤ b * e := by
      have := Int.mul_le_mul_of_nonneg_right (show 1 ≤ b by omega) he
      omega
    have p4 := Int.mul_nonneg (Int.le_of_lt ha) hc
    omega
  rcases E.s with ⟨s1, s2, s3⟩ | ⟨s1, s2, s3⟩
  · have k := key left right following (-found) l r s2 (by omega) (by rw [Int.mul_neg]; omega)
    exact ⟨by omega, fun h => by have := k.2 h; omega⟩
  · have k := key left right (-following) found l r (by omega) s1 (by rw [Int.mul_neg]; omega)
    exact ⟨by omega, fun h => by have := k.2 h; omega⟩
theorem Euc.fin {number divisor left found following : Int} (E : Euc number divisor left 0 found following) (hg : Nat.gcd divisor.natAbs number.natAbs = 1) : divisor ∣ found * number - 1 := by
  have g := E.g
  rw [hg] at g
  have l := E.l
  have : left = 1 := by
    simp at g
    omega
  have c := E.c1
  rwa [this] at c
end NM

namespace My
open PySem PySem.Spec PyProof.Rows L2
section
/-! ### a method that ends in super().__init__(..) -/
/-- names of a method whose one free name is the class -/
structure SupScope (N ps : List Str) (sc : Scope) : Prop where
  kind : sc.kind = .function
  co : sc.isCoroutine = false
  gen : sc.isGenerator = false
  nd : N.Nodup
  pre : N.take ps.length = ps
  par : ∀ x ∈ ps, sc.names.lookup x = some .local
  nocell : ∀ y ∈ sc.names, y.2 ≠ .cell
  free : ∀ y ∈ sc.names, y.2 = .free → y.1 = "__class__"
/-- the context of such a method's body -/
def cxS (CX : CXT) (P : Program) (w : World) (K : PySem.W.Frag) (mg : Str → Option Value) (base : Heap) (N : List Str) (qual : Str) (scope : Scope) (f : Addr) (cd : Value) (cc : Addr) (A : Around) (outer : List Env) (s : Shared) (H : Hp) (E : XK) : Cx where
  prog := P
  w := w
  K := K
  mg := mg
  base := base
  A := A.deeper (PySem.W.ksEnv qual scope s.heap.objs.size f cd cc)
  N := N
  s_0 := s
  H_0 := H
  env := PySem.W.ksEnv qual scope s.heap.objs.size f cd cc
  outer := outer
  stack := PySem.W.ksEnv qual scope s.heap.objs.size f cd cc :: outer
  ex := []
  calm := true
  fn := fun _ => false
  pn := []
  xe := fun e s' => wpAny (model P w) (A.deeper (PySem.W.ksEnv qual scope s.heap.objs.size f cd cc)) (leaving (PySem.W.ksEnv qual scope s.heap.objs.size f cd cc) e) (fun _ s'' => CX outer H s E e s'') (fun e' s'' => CX outer H s E e' s'') s'
theorem look_nd {x : Str} {u : Value} : ∀ {l : List (Str × Value)}, (l.map (·.1)).Nodup → (x, u) ∈ l → l.lookup x = some u
  | [], _, h => by cases h
  | (y, v) :: l, nd, h => by
    rw [List.map_cons] at nd
    obtain ⟨n1, n2⟩ := List.nodup_cons.mp nd
    rcases List.mem_cons.mp h with e | e
    · cases e
      exact List.lookup_cons_self
    · have ne : (x == y) = false := by
        rw [beq_eq_false_iff_ne]
        rintro rfl
        exact n1 (List.mem_map.mpr ⟨_, e, rfl⟩)
      rw [List.lookup_cons, ne]
      exact look_nd n2 e
theorem base_at {X : Cx} {pins : List (Addr × Obj)} {σ : L2.St} {H : Hp} {s : Shared} {a : Addr} {o : Obj} (I : Inv X pins σ H s) (e : X.K.lookup a = some o) : s.heap.get? a = some o := I.kIn _ _ e
theorem inv_sup {CX : CXT} {P : Program} {w : World} {K : PySem.W.Frag} {mg : Str → Option Value} {base : Heap} {N ps : List Str} {qual : Str} {scope : Scope} {f cc : Addr} {cd : Value} {A : Around} {outer : List Env} {s : Shared} {h1 : Heap} {t1 : Nat} {H : Hp} {E : XK} {us : List Value} {vs : List V} {oc : Obj} {v0 : Option Value}
    (S : SupScope N ps scope) (hd : A.handled = none) (e0 : Env0 P w K mg base A outer s H) (hl : vs.length = ps.length) (r : Vals vs us) (hcc : K.lookup cc = some oc) (hoc : oc.data = .cell v0)
    (hns : h1.Ns s.heap.objs.size (fun x => (ps.zip us).reverse.lookup x)) (hk : ∀ b o, s.heap.get? b = some o → h1.get? b = some o) :
    Inv (cxS CX P w K mg base N qual scope f cd cc A outer s H E) [] (start N vs) H { s with heap := h1, toks := t1 } := by
  have hpl : ps.length ≤ N.length := by have := congrArg List.length S.pre; rw [List.length_take] at this; omega
  have noA : ∀ b : Addr, b ∉ (cxS CX P w K mg base N qual scope f cd cc A outer s H E).ex := fun b z => absurd (show b ∈ ([] : List Addr) from z) (by simp)
  have cl : ∀ (y : Str) (c : Addr), (cxS CX P w K mg base N qual scope f cd cc A outer s H E).env.cells.lookup y = some c → y = "__class__" ∧ c = cc := fun y c h => by
    have h : ([("__class__", cc)] : List (Str × Addr)).lookup y = some c := h
    rw [List.lookup_cons] at h
    cases e : (y == ("__class__" : Str)) with
    | true =>
      rw [e] at h
      cases h
      exact ⟨eq_of_beq e, rfl⟩
    | false => rw [e] at h; cases h
  have bc : base.get? cc = some oc := e0.mod.kin _ _ hcc
  have sc' := e0.bs _ _ bc
  refine ⟨⟨e0.mod, S.kind, rfl, rfl, Nat.le_refl _, fun y z c a b => ?_, fun y hy => ?_, fun y c z => (nomatch z), fun _ => hd, Around.frames_deeper e0.frames, .inr ⟨rfl, rfl⟩, fun b z => absurd z (noA b), e0.bs, e0.bsz, fun b _ _ => noA b, fun b z => absurd z (noA b), e0.funs, e0.frf⟩,
    rfl, e0.bare, Un.kept hk, ⟨_, hns, fun i y v h1 h2 h3 => ?_⟩, fun y c h => ?_, e0.hok.fresh (Nat.le_refl _), fun y c h => ?_, fun p hp => absurd (show p ∈ ([] : List (Addr × Obj)) from hp) (by simp), e0.hok.kept hk, ?_⟩
  · rw [(cl y c a).1, (cl z c b).1]
  · have hy : scope.names.lookup y = some .cell ∨ scope.names.lookup y = some .free := hy
    rcases hy with hy | hy
    · exact absurd rfl (S.nocell _ (PySem.mem_of_lookup hy))
    · have := S.free _ (PySem.mem_of_lookup hy) rfl
      dsimp only at this
      subst this
      exact ⟨cc, rfl⟩
  · have hi : i < vs.length := by
      unfold L2.start at h2
      by_cases hi : i < vs.length
      · exact hi
      · rw [List.getElem?_append_right (by simpa using hi)] at h2
        rw [List.getElem?_replicate] at h2
        split at h2 <;> cases h2
    have ha : vs[i]? = some v := by
      unfold L2.start at h2
      rw [List.getElem?_append_left (by simpa using hi), List.getElem?_map] at h2
      cases e : vs[i]? with
      | none => rw [e] at h2; cases h2
      | some a => rw [e] at h2; cases h2; rfl
    obtain ⟨u, hu, rv⟩ := r.get ha
    have hp : ps[i]? = some y := by
      rw [← S.pre, List.getElem?_take_of_lt (by omega)]; exact h1
    have ndP : ps.Nodup := by rw [← S.pre]; exact S.nd.sublist (List.take_sublist _ _)
    refine ⟨u, rv, .inl ⟨S.par y (List.mem_of_getElem? hp), look_nd ?_ ?_⟩⟩
    · rw [List.map_reverse]
      have hu2 : us.length = ps.length := by rw [← r.length]; exact hl
      rw [show (ps.zip us).map (·.1) = ps from List.map_fst_zip (by omega)]
      exact List.pairwise_reverse.mpr (List.Pairwise.imp (fun h => Ne.symm h) ndP)
    · refine List.mem_reverse.mpr (List.mem_of_getElem? (i := i) ?_)
      rw [List.getElem?_zip_eq_some]
      exact ⟨hp, hu⟩
  · obtain ⟨_, rfl⟩ := cl y c h
    exact ⟨v0, oc, hk _ _ sc'.1, hoc⟩
  · obtain ⟨_, rfl⟩ := cl y c h
    exact sc'.2
  · unfold L2.start
    show _ = N.length
    rw [List.length_append, List.length_map, List.length_replicate]
    omega
/-- statements run where the code on top is this body's -/
structure PSup (X : Cx) (whole st : List Stmt) (t : TS) : Prop where
  run : ∀ (pins : List (Addr × Obj)) (s : Shared) (σ : L2.St) (H : Hp) (D : Ends), Inv X pins σ H s → t D σ H → _root_.PySem.wpAt (model X.prog X.w) X.A (.func whole X.env) (execs st X.env) (SP X pins D) X.xe s
theorem psup_cons {X : Cx} {whole : List Stmt} {st : Stmt} {rest : List Stmt} {t u : TS} (h1 : PS X st t) (h2 : PSup X whole rest u) : PSup X whole (st :: rest) (tSeq t u) := by
  refine ⟨fun pins s σ H D I h => ?_⟩
  refine ks_wpAt_execs_cons (wpAt_of_wpAny (thn (h1.run pins s σ H { D with nx := u D } I h) fun f s1 q => ?_))
  cases f with
  | next =>
    obtain ⟨σ', H', I', q⟩ := q
    exact h2.run pins s1 σ' H' D I' q
  | ret v => exact q
  | brk => exact q
  | cont => exact q
theorem fn_sup {CX : CXT} {P : Program} {w : World} {K : PySem.W.Frag} {mg : Str → Option Value} {base : Heap} {k : Nat} {f cc : Addr} {name qual : Str} {params : Arguments} {body : List Stmt} {scope : Scope} {dV kV doc pm cdv ct oc : Value} {an od : Option Addr}
    {osl : Array (Option Value)} {N ps : List Str} {sp : Sp} {oc' : Obj} {v0 : Option Value} (lk : K.lookup f = some ⟨oc, od, .func (PySem.W.ksFn name qual params body scope dV kV doc pm an cdv ct cc), osl⟩) (hcd : PySem.W.codeIn K cdv qual = true) (S : SupScope N ps scope)
    (hcc : K.lookup cc = some oc') (hoc : oc'.data = .cell v0)
    (len : ∀ vs H Q E, sp vs H Q E → vs.length = ps.length)
    (hbody : ∀ (A : Around) (outer : List Env) (s : Shared) (H : Hp) (vs : List V) (Q : VK) (E : XK), Room k (A.deeper (PySem.W.ksEnv qual scope s.heap.objs.size f cdv cc)) → sp vs H Q E →
      ∃ t, PSup (cxS CX P w K mg base N qual scope f cdv cc A outer s H E) body body t ∧ t { nx := fun _ H' => Q .non H', rt := Q } (start N vs) H) :
    FnOk P w K mg base CX (k + 1) f (PySem.W.ksFn name qual params body scope dV kV doc pm an cdv ct cc) ps sp := by
  refine ⟨len, fun A outer s H args us vs Q E hr e0 hb r hsp => ?_⟩
  have hl := len _ _ _ _ hsp
  have KX : K.In s.heap := e0.mod.kin.keeps fun b o e => (e0.bs b o e).1
  have lim : s.heap.NoLimit := e0.mod.nolimit.keeps fun b o e => (e0.bs b o e).1
  refine ks_codeAny_call_defAt hr.depth (KX _ _ lk) rfl lim (PySem.W.codeRec_of KX hcd) rfl hb S.nocell (fun y hy => S.par _ (List.of_mem_zip (show (y.1, y.2) ∈ ps.zip us from hy)).1) (fun h1 hns hk => ?_) S.co S.gen S.kind
  obtain ⟨t, ht, hq⟩ := hbody A outer s H vs Q E (hr.deeper _) hsp
  have I : Inv (cxS CX P w K mg base N qual scope f cdv cc A outer s H E) [] (start N vs) H { s with heap := h1, toks := s.toks + (ps.zip us).length } := inv_sup S hr.hd e0 hl r hcc hoc hns hk
  refine ks_wpAt_mono (ht.run [] _ (start N vs) H _ I hq) (fun fl s' hs => ?_) fun e s' hs => hs
  have fin : ∀ {σ' : L2.St} {H' : Hp} {v : V} {u : Value}, Inv (cxS CX P w K mg base N qual scope f cdv cc A outer s H E) [] σ' H' s' → RelV v u → Q v H' → CE outer P w H s Q u s' :=
    fun {σ' H' v u} J rv q => ⟨v, H', J.os, J.bare, J.base, J.hok, rv, q⟩
  cases fl with
  | ret u =>
    obtain ⟨v, σ', H', J, rv, q⟩ := hs
    exact fin J rv q
  | next =>
    obtain ⟨σ', H', J, q⟩ := hs
    exact fin (v := V.non) (u := Value.none) J rfl q
  | brk =>
    obtain ⟨_, _, _, q⟩ := hs
    exact False.elim q
  | cont =>
    obtain ⟨_, _, _, q⟩ := hs
    exact False.elim q
/-- what of the text super() reads, in the method f of the class at D -/
structure SupOf (P : Program) (K : PySem.W.Frag) (mg : Str → Option Value) (f cda cc D f2 : Addr) (sn : Str) : Prop where
  fn : ∃ (oc : Value) (od : Option Addr) (fd : FuncData) (osl : Array (Option Value)) (ar : Arg), K.lookup f = some ⟨oc, od, .func fd, osl⟩ ∧ (fd.params.posonlyargs ++ fd.params.args).head? = some ar ∧ ar.arg = sn
  code : ∃ (ccl : Value) (cdd : Option Addr) (vs : Array Value) (ccs : Array (Option Value)) (file : Str) (tf : Tok), K.lookup cda = some ⟨ccl, cdd, .fields vs, ccs⟩ ∧ vs[2]? = some (.str file tf) ∧ ((P.main.file : Str) == file) = true
  cell : ∃ (cl : Value) (cld : Option Addr) (csl : Array (Option Value)), K.lookup cc = some ⟨cl, cld, .cell (some (.ref D)), csl⟩
  cls : ∃ cd, PySem.W.clsIn K D = some cd
  nosup : mg "super" = none
  top : (P.main.scope.names.lookup ("super" : Str)).isSome = false
  any : PySem.W.nsIn K PySem.cStatics "thirdparty.any" = some none
  fn2 : PySem.W.typeIn K (.ref f2) = some (.type "function")
  fi : PySem.W.fnIn K f2 = true
/-- the program's file, and that it lays no super of its own -/
structure PrF (fl : Str) (P : Program) : Prop where
  file : ((P.main.file : Str) == fl) = true
  top : (P.main.scope.names.lookup ("super" : Str)).isSome = false
/-- the same without the program -/
structure SupK (K : PySem.W.Frag) (mg : Str → Option Value) (fl : Str) (cda cc D f2 : Addr) : Prop where
  code : ∃ (ccl : Value) (cdd : Option Addr) (vs : Array Value) (ccs : Array (Option Value)) (tf : Tok), K.lookup cda = some ⟨ccl, cdd, .fields vs, ccs⟩ ∧ vs[2]? = some (.str fl tf)
  cell : ∃ (cl : Value) (cld : Option Addr) (csl : Array (Option Value)), K.lookup cc = some ⟨cl, cld, .cell (some (.ref D)), csl⟩
  cls : ∃ cd, PySem.W.clsIn K D = some cd
  nosup : mg "super" = none
  any : PySem.W.nsIn K PySem.cStatics "thirdparty.any" = some none
  fn2 : PySem.W.typeIn K (.ref f2) = some (.type "function")
  fi : PySem.W.fnIn K f2 = true
/-- a def of the text that closes over its class alone -/
structure FunS (K : PySem.W.Frag) (x qual : Str) (st : Stmt) (f cda cc : Addr) (fd : FuncData) : Prop where
  ex : ∃ (oc : Value) (od : Option Addr) (kV doc pm : Value) (an : Option Addr) (ct : Value) (osl : Array (Option Value)),
    fd = PySem.W.ksFn x qual (defArgs st) (defBody st) (defScope st) .none kV doc pm an (.ref cda) ct cc ∧ K.lookup f = some ⟨oc, od, .func fd, osl⟩ ∧ PySem.W.codeIn K (.ref cda) qual = true
  kp : PySem.W.keepIn K (.ref f) = true
theorem SupK.of {fl : Str} {P : Program} (h : PrF fl P) {K : PySem.W.Frag} {mg : Str → Option Value} {x qual : Str} {st : Stmt} {f cda cc D f2 : Addr} {fd : FuncData} {sn : Str} (k : SupK K mg fl cda cc D f2) (F : FunS K x qual st f cda cc fd)
    (hp : (((defArgs st).posonlyargs ++ (defArgs st).args).head?.map (·.arg)) = some sn) : SupOf P K mg f cda cc D f2 sn := by
  obtain ⟨oc, od, kV, doc, pm, an, ct, osl, rfl, lk, hcd⟩ := F.ex
  obtain ⟨ar, ha, hs⟩ := Option.map_eq_some_iff.mp hp
  obtain ⟨c1, c2, vs, c4, tf, e1, e2⟩ := k.code
  exact ⟨⟨_, _, _, _, ar, lk, ha, hs⟩, ⟨c1, c2, vs, c4, fl, tf, e1, e2, h.file⟩, k.cell, k.cls, k.nosup, h.top, k.any, k.fn2, k.fi⟩
theorem FunS.okX {P : Program} {w : World} {K : PySem.W.Frag} {mg : Str → Option Value} {base : Heap} {fl x qual : Str} {st : Stmt} {f cda cc D f2 : Addr} {fd : FuncData} {N ps : List Str} {k : Nat} {sp : Sp} (F : FunS K x qual st f cda cc fd) (S : SupScope N ps (defScope st)) (sk : SupK K mg fl cda cc D f2)
    (len : ∀ vs H Q E, sp vs H Q E → vs.length = ps.length)
    (hbody : ∀ (A : Around) (outer : List Env) (s : Shared) (H : Hp) (vs : List V) (Q : VK) (E : XK), Room k (A.deeper (PySem.W.ksEnv qual (defScope st) s.heap.objs.size f (.ref cda) cc)) → sp vs H Q E →
      ∃ t, PSup (cxS (L2.CX P w) P w K mg base N qual (defScope st) f (.ref cda) cc A outer s H E) (defBody st) (defBody st) t ∧ t { nx := fun _ H' => Q .non H', rt := Q } (start N vs) H) : FnOk P w K mg base (L2.CX P w) (k + 1) f fd ps sp := by
  obtain ⟨oc, od, kV, doc, pm, an, ct, osl, rfl, lk, hcd⟩ := F.ex
  obtain ⟨c1, c2, c3, hcc⟩ := sk.cell
  exact fn_sup lk hcd S hcc rfl len hbody
theorem FunS.binds {K : PySem.W.Frag} {x qual : Str} {st : Stmt} {f cda cc : Addr} {fd : FuncData} {ps : List Str} (F : FunS K x qual st f cda cc fd)
    (h : ∀ (kV doc pm : Value) (an : Option Addr) (ct : Value) (us : List Value), us.length = ps.length → bindArgs (PySem.W.ksFn x qual (defArgs st) (defBody st) (defScope st) .none kV doc pm an (.ref cda) ct cc) ⟨us, []⟩ = pure (ps.zip us)) : Binds K fd ps [] := by
  obtain ⟨oc, od, kV, doc, pm, an, ct, osl, rfl, lk, hcd⟩ := F.ex
  exact .all (h kV doc pm an ct)
theorem funS_mk {K : PySem.W.Frag} {x qual : Str} {st : Stmt} {f cda cc : Addr} {oc : Value} {od an : Option Addr} {osl : Array (Option Value)} {kV doc pm ct : Value} (l : K.lookup f = some ⟨oc, od, .func (PySem.W.ksFn x qual (defArgs st) (defBody st) (defScope st) .none kV doc pm an (.ref cda) ct cc), osl⟩)
    (c : PySem.W.codeIn K (.ref cda) qual = true) (k : PySem.W.keepIn K (.ref f) = true) : FunS K x qual st f cda cc (PySem.W.ksFn x qual (defArgs st) (defBody st) (defScope st) .none kV doc pm an (.ref cda) ct cc) := ⟨⟨oc, od, kV, doc, pm, an, ct, osl, rfl, l, c⟩, k⟩
/-- .. of an instance of the class at C -/
structure SupAt (K : PySem.W.Frag) (C D f2 : Addr) (m : Str) : Prop where
  sub : PySem.W.mroIn K C (.ref D) = some true
  at_ : PySem.W.ks_superIn K C D m = some (some (.ref f2))
  cl : ∃ cd, PySem.W.clsIn K C = some cd
def tSup (K : PySem.W.Frag) (D f2 : Addr) (m : Str) (sp2 : Sp) (E : XK) (t : TA) : TS := fun Dn σ H => ∃ (x C dx : Addr) (fs : List (Str × V)), σ[0]? = some (some (V.ref x)) ∧ H x = some (.ins C dx fs) ∧ SupAt K C D f2 m ∧ t σ H fun vs H1 => sp2 (.ref x :: vs) H1 (fun _ H2 => Dn.nx σ H2) E
theorem psup_super {X : Cx} {whole : List Stmt} {CX : CXT} {k : Nat} {D f f2 cda cc : Addr} {sn m : Str} {sp2 : Sp} {E : XK} {e : Expr} {es : List Expr} {t : TA} {p0 p1 apos pos pos2 : Pos} {pl : Sem Bool}
    (so : SupOf X.prog X.K X.mg f cda cc D f2 sn) (F2 : FnR X.prog X.w X.K X.mg X.base CX k f2 sp2) (hr : Room k X.A) (hx : Passes CX X E) (ha : PA X (e :: es) t)
    (hfu : X.env.func = some f) (hco : X.env.code = .ref cda) (hcl : X.env.cells.lookup ("__class__" : Str) = some cc)
    (hks : X.env.kindOf "super" = some .globalImplicit) (hkc : X.env.kindOf "__class__" = some .free) (hk0 : X.env.kindOf sn = some .local) (hN : X.N[0]? = some sn) (hat : (m == ("__class__" : Str)) = false := by decide)
    (hboot : bootBuiltins "super" = some (.type "super") := by rfl)
    (hst : starEach (e :: es) X.env = (false, eval e X.env) :: starEach es X.env := by rfl) (hpl : (backTo pos (starEach es X.env)).any (·.1) = false := by rfl)
    (hs : swapsWith (.Call (.Attribute (.Call (.Name "super" p0) [] [] p1) m apos) (e :: es) [] pos) none pos2.line X.env = pure false := by rfl)
    (ht : eval (.Call (.Attribute (.Call (.Name "super" p0) [] [] p1) m apos) (e :: es) [] pos) X.env = (do
      let ov ← attributeBase (.Call (.Name "super" p0) [] [] p1) m X.env (eval (.Call (.Name "super" p0) [] [] p1) X.env)
      standAt apos.atName
      let (f, first) ← holding [ov] (getMethod ov m pl)
      callWith pos f first (backTo pos (starEach (e :: es) X.env)) []) := by rfl) :
    PSup X whole [.Expr (.Call (.Attribute (.Call (.Name "super" p0) [] [] p1) m apos) (e :: es) [] pos) pos2] (tSup X.K D f2 m sp2 E t) := by
  refine ⟨fun pins s σ H Dn I ⟨x, C, dx, fs, h0, hxa, sa, h⟩ => ?_⟩
  have sf := so.fn
  obtain ⟨oc, od, fd, osl, ar, hf, hp, rfl⟩ := sf
  obtain ⟨ccl, cdd, vs0, ccs, file, tf, hcode, hvs, hfile⟩ := so.code
  obtain ⟨cl, cld, csl, hcell⟩ := so.cell
  obtain ⟨cdD, hD⟩ := so.cls
  obtain ⟨cd, hc⟩ := sa.cl
  obtain ⟨oD, hD1, hD2⟩ : ∃ oD, s.heap.get? D = some oD ∧ oD.data = .cls cdD := by
    unfold PySem.W.clsIn at hD
    split at hD
    · rename_i c d cd' sl ho
      cases hD
      exact ⟨_, base_at I ho, rfl⟩
    · cases hD
  refine ks_wpAt_execs_cons (ks_wpAt_Expr_any (ks_wpAt_MethodCall (pl := pl) ?_ ht) I.quiet hs)
  refine ks_wpAt_super_base hks hkc hat hfu (base_at I hf) rfl hp hco (base_at I hcode) rfl hvs hfile so.top ?_
  obtain ⟨mb, b1, b2⟩ := I.mod.blt
  refine PySem.W.ks_loadName_global I.ok.kind hks (Calls.loadGlobal_builtin (by rw [I.ok.glob]; exact I.mod.glob.keeps I.bk) so.nosup (by rw [I.ok.blt]; exact b1.keeps I.bk) ((b2 "super" (by decide)).trans hboot) ⟨rfl, ?_⟩)
  refine wpAny_loadName_free I.ok.kind hkc hcl ⟨_, base_at I hcell, rfl⟩ ?_
  obtain ⟨mm, hn, hlk⟩ := I.loc
  obtain ⟨u, ru, lu⟩ := hlk 0 ar.arg (.ref x) hN h0 (.inl hk0)
  obtain rfl : u = Value.ref x := ru
  have hm : mm ar.arg = some (Value.ref x) := by
    rcases lu with ⟨_, q⟩ | ⟨q, _⟩
    · exact q
    · rw [hk0] at q
      rcases q with q | q <;> cases q
  refine wpAny_loadName_local I.ok.kind hk0 hn hm ?_
  refine ks_wpAny_isType_cls hD1 hD2 ⟨rfl, ?_⟩
  obtain ⟨mA, O, _, _, _, _⟩ := ins_get I.hok hxa
  obtain ⟨odx, J, _⟩ := O.look
  obtain ⟨hh, g, d, tt, os⟩ := s
  refine ks_wpAny_call_super hD1 hD2 J.at_ J.cls (fun c e => ?_) (PySem.W.looks_mroIn I.kIn sa.sub) (fun h' e k => ?_)
  · have := J.no
    unfold PySem.W.notCls at this
    rw [e] at this
    exact Bool.noConfusion this
  have I1 : Inv X ((hh.objs.size, PySem.W.ks_superObj D x C) :: pins) σ H ⟨h', g, d, tt, os⟩ := ClX.pin_new I k (Nat.le_refl _) e (fun v z => nomatch z)
  obtain ⟨mA', O', _, _, _, _⟩ := ins_get I1.hok hxa
  obtain ⟨odx', J', _⟩ := O'.look
  obtain ⟨of, hof, hofc⟩ : ∃ of, h'.get? f2 = some of ∧ of.cls = .type "function" := by
    have ht' : (X.K.lookup f2).map (·.cls) = some (.type "function") := so.fn2
    cases z : X.K.lookup f2 with
    | none => rw [z] at ht'; cases ht'
    | some of => rw [z] at ht'; exact ⟨of, base_at I1 z, Option.some.inj ht'⟩
  have hm2 := sa.at_
  unfold PySem.W.ks_superIn at hm2
  rw [hc] at hm2
  refine ks_wpAny_getMethod_super (ClX.pin_at I1) (PySem.W.looks_opaque I1.kIn so.any) (l₀ := cd.mro) (fun A Q E s k q => wpAny_bind ((PySem.W.looks_clsIn I1.kIn hc) A _ E s k (wpAny_pure q))) rfl I1.kIn hm2 hof hofc (PySem.W.ks_ne I1.kIn J' hc) hat ?_
  have I2 : Inv X ((h'.objs.size, PySem.W.methodObj (.ref f2) (.ref x)) :: (hh.objs.size, PySem.W.ks_superObj D x C) :: pins) σ H ⟨h'.push (PySem.W.methodObj (.ref f2) (.ref x)), g, d, tt + 1, os⟩ :=
    ClX.pin_new I1 (fun _ _ z => Heap.get?_push_of_some _ z) (Nat.le_refl _) (Heap.get?_push_size _ rfl) (fun v z => nomatch z)
  have hb : X.base.get? h'.objs.size = none := ClX.base_none I1 (Nat.le_refl _)
  have hL : h'.objs.size ≠ X.env.locals := (I2.pin (h'.objs.size, PySem.W.methodObj (.ref f2) (.ref x)) (List.mem_append_right _ List.mem_cons_self)).2.2.1
  refine PySem.W.callWith_M (K := X.K) (h₀ := X.base) (first := []) I.ok.mod.kin (news_at hL hb (ClX.pin_at I2)) List.mem_cons_self so.fi ?_ hst hpl
  refine thn (ha.run pos _ _ σ H _ I2 h) fun us s3 ⟨vs, H2, I3, rv, q2⟩ => ⟨⟨ClX.pin_at I3, I3.kIn⟩, ?_⟩
  refine thn (wpAny_call (PySem.W.method_call (ClX.pin_at I3) (run_fnR (us := .ref x :: us) (vs := .ref x :: vs) F2 hr hx I3 (.cons rfl rv) q2))) fun v s4 ⟨v', H4, I4, _, q4⟩ => ?_
  exact wpAt_of_wpAny (wpAny_execs_nil ⟨σ, H4, ClX.unpin (ClX.unpin I4), q4⟩)
end
end My

/-! ### decimal texts, their numbers; words and blanks -/
namespace NX
open PySem
/-- signs of a decimal number, written as it is: no sign ahead, no 0 ahead of another digit -/
def canon (a : List Nat) : Bool := !a.isEmpty && a.all (fun c => decide (48 ≤ c) && decide (c ≤ 57)) && (decide (a.head? ≠ some 48) || decide (a.length = 1))
theorem canon_ne {a : List Nat} (h : canon a = true) : a ≠ [] := by
  rintro rfl
  exact absurd h (by decide)
theorem canon_dig {a : List Nat} (h : canon a = true) : a.all (fun c => decide (48 ≤ c) && decide (c ≤ 57)) = true := by
  unfold canon at h
  rw [Bool.and_eq_true, Bool.and_eq_true] at h
  exact h.1.2
theorem canon_head {a : List Nat} (h : canon a = true) : a.head? ≠ some 48 ∨ a.length = 1 := by
  unfold canon at h
  rw [Bool.and_eq_true, Bool.or_eq_true] at h
  exact h.2.imp of_decide_eq_true of_decide_eq_true
theorem canon_mk {a : List Nat} (h1 : a ≠ []) (h2 : a.all (fun c => decide (48 ≤ c) && decide (c ≤ 57)) = true) (h3 : a.head? ≠ some 48 ∨ a.length = 1) : canon a = true := by
  unfold canon
  rw [h2, Bool.and_true, Bool.and_eq_true, Bool.or_eq_true]
  refine ⟨?_, h3.imp decide_eq_true decide_eq_true⟩
  cases a with
  | nil => exact absurd rfl h1
  | cons _ _ => rfl
theorem val_snoc (b : List Nat) (c : Nat) : NumText.digitsVal (b ++ [c]) = NumText.digitsVal b * 10 + (c - 48) := by
  unfold NumText.digitsVal
  rw [List.foldl_append]
  rfl
theorem numL0 : TL.numL 0 = [48] := TL.numL_lt (by decide)
theorem canon_num : ∀ (k : Nat) (a : List Nat), a.length = k → canon a = true → TL.numL (NumText.digitsVal a) = a := by
  intro k
  induction k with
  | zero => intro a hl h; exact absurd (List.length_eq_zero_iff.mp hl) (canon_ne h)
  | succ k ih =>
    intro a hl h
    rcases List.eq_nil_or_concat a with rfl | ⟨b, c, rfl⟩
    · exact absurd rfl (canon_ne h)
    · rw [List.concat_eq_append] at *
      have hd := canon_dig h
      rw [List.all_append, Bool.and_eq_true] at hd
      have hc : 48 ≤ c ∧ c ≤ 57 := by
        have := hd.2
        simp only [List.all_cons, List.all_nil, Bool.and_true, Bool.and_eq_true, decide_eq_true_eq] at this
        exact this
      rw [List.length_append, List.length_singleton] at hl
      cases b with
      | nil =>
        rw [List.nil_append, show NumText.digitsVal [c] = c - 48 from by unfold NumText.digitsVal; simp, TL.numL_lt (by omega)]
        congr 1
        omega
      | cons d b =>
        have hh : (d :: b).head? ≠ some 48 := by
          rcases canon_head h with z | z
          · simpa using z
          · rw [List.length_append] at z
            simp at z
        have hb : canon (d :: b) = true := canon_mk (by simp) hd.1 (.inl hh)
        have e := ih (d :: b) (by omega) hb
        have pos : 1 ≤ NumText.digitsVal (d :: b) := by
          rcases Nat.eq_zero_or_pos (NumText.digitsVal (d :: b)) with z | z
          · rw [z, numL0] at e
            rw [← e] at hh
            exact absurd rfl hh
          · exact z
        rw [val_snoc, TL.numL_step (by omega), show (NumText.digitsVal (d :: b) * 10 + (c - 48)) / 10 = NumText.digitsVal (d :: b) by omega, show (NumText.digitsVal (d :: b) * 10 + (c - 48)) % 10 = c - 48 by omega, e]
        congr 2
        omega
theorem canon_eq {a : List Nat} (h : canon a = true) : TL.numL (NumText.digitsVal a) = a := canon_num _ a rfl h
theorem numL_canon (n : Nat) : canon (TL.numL n) = true := by
  refine canon_mk (TL.numL_ne n) ?_ ?_
  · rw [List.all_eq_true]
    intro c hc
    have := TL.numL_digits n c hc
    simp only [Bool.and_eq_true, decide_eq_true_eq]
    exact this
  · induction n using Nat.strongRecOn with
    | _ n ih =>
      rcases Nat.lt_or_ge n 10 with h | h
      · right; rw [TL.numL_lt h]; rfl
      · left
        rw [TL.numL_step h]
        have ne := TL.numL_ne (n / 10)
        have e : (TL.numL (n / 10) ++ [48 + n % 10]).head? = (TL.numL (n / 10)).head? := by
          cases q : TL.numL (n / 10) with
          | nil => exact absurd q ne
          | cons _ _ => rfl
        rw [e]
        rcases ih (n / 10) (by omega) with z | z
        · exact z
        · intro w
          have l1 : TL.numL (n / 10) = [48] := by
            cases q : TL.numL (n / 10) with
            | nil => exact absurd q ne
            | cons x y =>
              rw [q] at z w
              cases y with
              | nil => cases w; rfl
              | cons _ _ => simp at z
          have v := TL.numL_val (n / 10)
          rw [l1] at v
          have v0 : NumText.digitsVal [48] = 0 := by decide
          omega
/-- what such a text of more than 13 digits is worth -/
theorem canon_great {a : List Nat} (h : canon a = true) (hl : 13 < a.length) : 10 ^ 13 ≤ NumText.digitsVal a := by
  rcases Nat.lt_or_ge (NumText.digitsVal a) (10 ^ 13) with z | z
  · have := TL.numL_len (k := 13) (by decide) z
    rw [canon_eq h] at this
    omega
  · exact z
end NX

/-! ### words of a wheel's text -/
namespace NX
open PySem
def num (i : Int) : Str := Str.ofString (toString i)
theorem num_nat (n : Nat) : num (n : Int) = ⟨(TL.numL n).toArray⟩ := TL.ext_tl (TL.tl_num n)
theorem tl_num (n : Nat) : TL.tl (num (n : Int)) = TL.numL n := TL.tl_num n
/-- the number of a word, if it is one -/
def numG (w : Str) : Option Int := if canon (TL.tl w) = true ∧ (TL.tl w).length ≤ 120 then some (NumText.digitsVal (TL.tl w) : Nat) else Option.none
theorem numG_eq {w : Str} {n : Int} (h : numG w = some n) : w = num n ∧ 0 ≤ n := by
  unfold numG at h
  split at h
  · rename_i c
    cases h
    exact ⟨TL.ext_tl (by rw [tl_num, canon_eq c.1]), Int.natCast_nonneg _⟩
  · cases h
theorem numG_num {n : Int} (h0 : 0 ≤ n) (h1 : n ≤ 1000000000000) : numG (num n) = some n := by
  obtain ⟨m, rfl⟩ := Int.eq_ofNat_of_zero_le h0
  have hm : m < 10 ^ 13 := by omega
  unfold numG
  rw [tl_num, if_pos ⟨numL_canon m, Nat.le_trans (TL.numL_len (by decide) hm) (by decide)⟩, TL.numL_val]
/-- .. within bounds -/
def tkV (lo : Int) (w : Str) : Option Int := match numG w with
  | some n => if lo ≤ n ∧ n ≤ 1000000000000 then some n else Option.none
  | Option.none => Option.none
theorem tkV_eq {lo n : Int} {w : Str} (h : tkV lo w = some n) : w = num n ∧ 0 ≤ n ∧ lo ≤ n ∧ n ≤ 1000000000000 ∧ numG w = some n := by
  unfold tkV at h
  cases e : numG w with
  | none => rw [e] at h; cases h
  | some m =>
    rw [e] at h
    simp only at h
    split at h
    · rename_i c
      cases h
      exact ⟨(numG_eq e).1, (numG_eq e).2, c.1, c.2, rfl⟩
    · cases h
theorem tkV_num {lo n : Int} (h0 : 0 ≤ n) (hl : lo ≤ n) (h1 : n ≤ 1000000000000) : tkV lo (num n) = some n := by
  unfold tkV
  rw [numG_num h0 h1]
  simp only
  rw [if_pos ⟨hl, h1⟩]
def tk (ws : List Str) (i : Nat) (lo : Int) : Option Int := ws[i]?.bind (tkV lo)
theorem tk_eq {ws : List Str} {i : Nat} {lo n : Int} (h : tk ws i lo = some n) : 0 ≤ n ∧ lo ≤ n ∧ n ≤ 1000000000000 := by
  unfold tk at h
  cases q : ws[i]? with
  | none => rw [q] at h; cases h
  | some v =>
    rw [q] at h
    have := tkV_eq (w := v) h
    exact ⟨this.2.1, this.2.2.1, this.2.2.2.1⟩
/-- what the words tell: trust, period, back, ahead; or the first word that cannot stand -/
def readW (ws : List Str) : Except Nat (Bool × Int × Int × Int) :=
  if ws[0]? = some ("grid" : Str) then match tk ws 1 2 with
    | Option.none => .error 1
    | some p => if 2 < ws.length then .error 2 else .ok (true, p, 0, 0)
  else if ws[0]? = some ("wheel" : Str) then match tk ws 1 2 with
    | Option.none => .error 1
    | some p => match tk ws 2 0 with
      | Option.none => .error 2
      | some b => match tk ws 3 0 with
        | Option.none => .error 3
        | some a => if 4 < ws.length then .error 4 else .ok (false, p, b, a)
  else .error 0
/-- the same ahead of the question whether a word is left: the number of words that are taken too -/
def headW (ws : List Str) : Except Nat (Bool × Int × Int × Int × Nat) :=
  if ws[0]? = some ("grid" : Str) then match tk ws 1 2 with
    | Option.none => .error 1
    | some p => .ok (true, p, 0, 0, 2)
  else if ws[0]? = some ("wheel" : Str) then match tk ws 1 2 with
    | Option.none => .error 1
    | some p => match tk ws 2 0 with
      | Option.none => .error 2
      | some b => match tk ws 3 0 with
        | Option.none => .error 3
        | some a => .ok (false, p, b, a, 4)
  else .error 0
theorem readW_head (ws : List Str) : readW ws = match headW ws with
  | .error i => .error i
  | .ok (tr, p, b, a, n) => if n < ws.length then .error n else .ok (tr, p, b, a) := by
  unfold readW headW
  split
  · cases tk ws 1 2 <;> rfl
  · split
    · cases tk ws 1 2 with
      | none => rfl
      | some p =>
        cases tk ws 2 0 with
        | none => rfl
        | some b => cases tk ws 3 0 <;> rfl
    · rfl
def wwords (tr : Bool) (p b a : Int) : List Str := if tr = true then ["grid", num p] else ["wheel", num p, num b, num a]
def wtext (tr : Bool) (p b a : Int) : Str := if tr = true then "grid " ++ num p else "wheel " ++ num p ++ " " ++ num b ++ " " ++ num a
theorem join_words (tr : Bool) (p b a : Int) : Txt.join " " (wwords tr p b a) = wtext tr p b a := by
  refine TL.ext_tl ?_
  rw [TL.join_eq, TL.tl_join]
  cases tr with
  | true =>
    show TL.joinL _ _ = TL.tl (("grid " : Str) ++ num p)
    rw [TL.tl_append]
    simp only [wwords, if_true, List.map_cons, List.map_nil, TL.joinL]
    rfl
  | false =>
    show TL.joinL _ _ = TL.tl (("wheel " : Str) ++ num p ++ " " ++ num b ++ " " ++ num a)
    simp only [wwords, Bool.false_eq_true, if_false, List.map_cons, List.map_nil, TL.joinL, TL.tl_append]
    have e : TL.tl ("wheel " : Str) = TL.tl ("wheel" : Str) ++ TL.tl (" " : Str) := by decide
    rw [e]
    simp only [List.append_assoc]
theorem read_ok {ws : List Str} {tr : Bool} {p b a : Int} (h : readW ws = .ok (tr, p, b, a)) : ws = wwords tr p b a ∧ (2 ≤ p ∧ p ≤ 1000000000000) ∧ (0 ≤ b ∧ b ≤ 1000000000000) ∧ (0 ≤ a ∧ a ≤ 1000000000000) ∧ (tr = true → b = 0 ∧ a = 0) := by
  unfold readW at h
  split at h
  · rename_i h0
    cases e1 : tk ws 1 2 with
    | none => rw [e1] at h; cases h
    | some q =>
      rw [e1] at h
      simp only at h
      split at h
      · cases h
      · rename_i hl
        cases h
        match ws, h0, e1, hl with
        | [w0, w1], h0, e1, _ =>
          cases h0
          obtain ⟨rfl, z0, z1, z2, _⟩ := tkV_eq (w := w1) e1
          exact ⟨rfl, ⟨z1, z2⟩, ⟨by decide, by decide⟩, ⟨by decide, by decide⟩, fun _ => ⟨rfl, rfl⟩⟩
        | [w0], _, e1, _ => cases e1
        | _ :: _ :: _ :: _, _, _, hl => simp at hl
  · split at h
    · rename_i h0
      cases e1 : tk ws 1 2 with
      | none => rw [e1] at h; cases h
      | some q =>
        rw [e1] at h
        simp only at h
        cases e2 : tk ws 2 0 with
        | none => rw [e2] at h; cases h
        | some q2 =>
          rw [e2] at h
          simp only at h
          cases e3 : tk ws 3 0 with
          | none => rw [e3] at h; cases h
          | some q3 =>
            rw [e3] at h
            simp only at h
            split at h
            · cases h
            · rename_i hl
              cases h
              match ws, h0, e1, e2, e3, hl with
              | [w0, w1, w2, w3], h0, e1, e2, e3, _ =>
                cases h0
                obtain ⟨rfl, z0, z1, z2, _⟩ := tkV_eq (w := w1) e1
                obtain ⟨rfl, y0, y1, y2, _⟩ := tkV_eq (w := w2) e2
                obtain ⟨rfl, x0, x1, x2, _⟩ := tkV_eq (w := w3) e3
                exact ⟨rfl, ⟨z1, z2⟩, ⟨y0, y2⟩, ⟨x0, x2⟩, fun z => by cases z⟩
              | [w0], _, e1, _, _, _ => cases e1
              | [w0, w1], _, _, e2, _, _ => cases e2
              | [w0, w1, w2], _, _, _, e3, _ => cases e3
              | _ :: _ :: _ :: _ :: _ :: _, _, _, _, _, hl => simp at hl
    · cases h
theorem read_own {tr : Bool} {p b a : Int} (hp : 2 ≤ p ∧ p ≤ 1000000000000) (hb : 0 ≤ b ∧ b ≤ 1000000000000) (ha : 0 ≤ a ∧ a ≤ 1000000000000) (ht : tr = true → b = 0 ∧ a = 0) : readW (wwords tr p b a) = .ok (tr, p, b, a) := by
  have t1 : tkV 2 (num p) = some p := tkV_num (by omega) hp.1 hp.2
  cases tr with
  | true =>
    obtain ⟨rfl, rfl⟩ := ht rfl
    show readW ["grid", num p] = _
    unfold readW
    rw [if_pos (show ((["grid", num p] : List Str)[0]? = some ("grid" : Str)) from rfl), show tk ["grid", num p] 1 2 = some p from t1]
    rfl
  | false =>
    show readW ["wheel", num p, num b, num a] = _
    unfold readW
    rw [if_neg (show ¬ ((["wheel", num p, num b, num a] : List Str)[0]? = some ("grid" : Str)) from show ¬ (some ("wheel" : Str) = some ("grid" : Str)) by decide), if_pos (show ((["wheel", num p, num b, num a] : List Str)[0]? = some ("wheel" : Str)) from rfl), show tk ["wheel", num p, num b, num a] 1 2 = some p from t1, show tk ["wheel", num p, num b, num a] 2 0 = some b from tkV_num hb.1 hb.1 hb.2, show tk ["wheel", num p, num b, num a] 3 0 = some a from tkV_num ha.1 ha.1 ha.2]
    rfl
theorem num_free {n : Int} (h : 0 ≤ n) : 32 ∉ TL.tl (num n) := by
  obtain ⟨m, rfl⟩ := Int.eq_ofNat_of_zero_le h
  rw [tl_num]
  exact TL.numL_free (.inl (by decide))
theorem wwords_free {tr : Bool} {p b a : Int} (hp : 0 ≤ p) (hb : 0 ≤ b) (ha : 0 ≤ a) : ∀ w ∈ wwords tr p b a, 32 ∉ TL.tl w := by
  cases tr with
  | true =>
    intro w hw
    simp only [wwords, if_true, List.mem_cons, List.not_mem_nil, or_false] at hw
    rcases hw with rfl | rfl
    · decide
    · exact num_free hp
  | false =>
    intro w hw
    simp only [wwords, Bool.false_eq_true, if_false, List.mem_cons, List.not_mem_nil, or_false] at hw
    rcases hw with rfl | rfl | rfl | rfl
    · decide
    · exact num_free hp
    · exact num_free hb
    · exact num_free ha
theorem split_words {ws : List Str} (h : ws ≠ []) (hf : ∀ w ∈ ws, 32 ∉ TL.tl w) : Txt.split (Txt.join " " ws) " " = ws := by
  exact TL.split_join (y := " ") (s := 32) (S := []) (by decide) (by decide +kernel) h hf
theorem len_num {n : Int} (h0 : 0 ≤ n) (h1 : n ≤ 1000000000000) : (num n).length ≤ 13 := by
  obtain ⟨m, rfl⟩ := Int.eq_ofNat_of_zero_le h0
  rw [TL.len_tl, tl_num]
  exact TL.numL_len (by decide) (by omega)
/-- a digit text within bounds, of at most 13 digits -/
def figs (w : Str) (lo : Int) : Bool := canon (TL.tl w) && decide ((TL.tl w).length ≤ 13) && decide (lo ≤ (NumText.digitsVal (TL.tl w) : Nat)) && decide (((NumText.digitsVal (TL.tl w) : Nat) : Int) ≤ 1000000000000)
theorem figs_tk (w : Str) (lo : Int) : figs w lo = (tkV lo w).isSome := by
  unfold figs tkV numG
  by_cases hc : canon (TL.tl w) = true
  · by_cases hl : (TL.tl w).length ≤ 120
    · rw [if_pos ⟨hc, hl⟩, hc]
      simp only [Bool.true_and]
      by_cases hb : lo ≤ ((NumText.digitsVal (TL.tl w) : Nat) : Int) ∧ ((NumText.digitsVal (TL.tl w) : Nat) : Int) ≤ 1000000000000
      · rw [if_pos hb, decide_eq_true hb.1, decide_eq_true hb.2]
        have : (TL.tl w).length ≤ 13 := by
          rcases Nat.lt_or_ge 13 (TL.tl w).length with z | z
          · have := canon_great hc z
            omega
          · exact z
        rw [decide_eq_true this]
        rfl
      · rw [if_neg hb]
        rw [Bool.and_assoc]
        have : (decide (lo ≤ ((NumText.digitsVal (TL.tl w) : Nat) : Int)) && decide (((NumText.digitsVal (TL.tl w) : Nat) : Int) ≤ 1000000000000)) = false := by
          rw [← Bool.decide_and, decide_eq_false hb]
        rw [this, Bool.and_false]
        rfl
    · rw [if_neg (fun z => hl z.2), decide_eq_false (show ¬ (TL.tl w).length ≤ 13 by omega), Bool.and_false, Bool.false_and, Bool.false_and]
      rfl
  · rw [if_neg (fun z => hc z.1), Bool.eq_false_iff.mpr hc, Bool.false_and, Bool.false_and, Bool.false_and]
    rfl
/-- signs of a digit text, as Python's own tests tell them -/
theorem dig_ascii : ∀ c : Nat, c < 128 → Unicode.isDigit c = (decide (48 ≤ c) && decide (c ≤ 57)) := by decide +kernel
theorem ascii_digits (w : Str) : (Txt.isascii w && Txt.isdigit w) = (!(TL.tl w).isEmpty && (TL.tl w).all (fun c => decide (48 ≤ c) && decide (c ≤ 57))) := by
  unfold Txt.isascii Txt.isdigit
  rw [Bool.eq_iff_iff]
  simp only [Bool.and_eq_true, Array.all_eq_true', decide_eq_true_eq, List.all_eq_true, Bool.not_eq_true']
  have hl : w.length > 0 ↔ (TL.tl w).isEmpty = false := by
    rw [TL.len_tl]
    cases TL.tl w <;> simp
  have hm : ∀ c, c ∈ w.cps ↔ c ∈ TL.tl w := fun c => by simp [TL.tl]
  constructor
  · rintro ⟨h1, h2, h3⟩
    refine ⟨hl.mp h2, fun c hc => ?_⟩
    have a := h1 c ((hm c).mpr hc)
    have b := h3 c ((hm c).mpr hc)
    rw [dig_ascii c a] at b
    simpa using b
  · rintro ⟨h1, h2⟩
    refine ⟨fun c hc => ?_, hl.mpr h1, fun c hc => ?_⟩
    · have := h2 c ((hm c).mp hc)
      omega
    · have b := h2 c ((hm c).mp hc)
      rw [dig_ascii c (by omega)]
      simpa using b
theorem int_text {w : Str} (h : canon (TL.tl w) = true) (hl : (TL.tl w).length ≤ 4300) : intText? w = some ((NumText.digitsVal (TL.tl w) : Nat) : Int) := by
  have e := SX.int_S (canon_dig h) (canon_ne h) hl
  rw [show SX.S (TL.tl w) = w from TL.mk_tl w] at e
  exact e
/-- the words behind the first one are asked one by one -/
theorem readW_ls {ws : List Str} {ls : List Int} (h : (ws[0]? = some ("grid" : Str) ∧ ls = [2]) ∨ (ws[0]? = some ("wheel" : Str) ∧ ls = [2, 0, 0])) :
    (∀ (j : Nat) (lo : Int), ls[j]? = some lo → (∀ (i : Nat) (lo' : Int), i < j → ls[i]? = some lo' → (tk ws (i + 1) lo').isSome = true) → tk ws (j + 1) lo = Option.none → readW ws = .error (j + 1)) ∧
    ((∀ (i : Nat) (lo : Int), ls[i]? = some lo → (tk ws (i + 1) lo).isSome = true) → (ls.length + 1 < ws.length → readW ws = .error (ls.length + 1)) ∧ (¬ ls.length + 1 < ws.length → ∃ r, readW ws = .ok r)) := by
  rcases h with ⟨h0, rfl⟩ | ⟨h0, rfl⟩
  · refine ⟨fun j lo hj hb hn => ?_, fun ha => ?_⟩
    · match j, hj with
      | 0, hj =>
        cases hj
        unfold readW
        rw [if_pos h0, hn]
    · obtain ⟨p, hp⟩ := Option.isSome_iff_exists.mp (ha 0 2 rfl)
      have hp : tk ws 1 2 = some p := hp
      refine ⟨fun hl => ?_, fun hl => ?_⟩
      · unfold readW
        rw [if_pos h0, hp]
        simp only
        exact if_pos hl
      · refine ⟨(true, p, 0, 0), ?_⟩
        unfold readW
        rw [if_pos h0, hp]
        simp only
        exact if_neg hl
  · have hg : ¬ (ws[0]? = some ("grid" : Str)) := by rw [h0]; decide
    refine ⟨fun j lo hj hb hn => ?_, fun ha => ?_⟩
    · match j, hj with
      | 0, hj =>
        cases hj
        unfold readW
        rw [if_neg hg, if_pos h0, hn]
      | 1, hj =>
        cases hj
        obtain ⟨p, hp⟩ := Option.isSome_iff_exists.mp (hb 0 2 (by decide) rfl)
        have hp : tk ws 1 2 = some p := hp
        unfold readW
        rw [if_neg hg, if_pos h0, hp]
        simp only
        rw [hn]
      | 2, hj =>
        cases hj
        obtain ⟨p, hp⟩ := Option.isSome_iff_exists.mp (hb 0 2 (by decide) rfl)
        have hp : tk ws 1 2 = some p := hp
        obtain ⟨b, hb'⟩ := Option.isSome_iff_exists.mp (hb 1 0 (by decide) rfl)
        have hb' : tk ws 2 0 = some b := hb'
        unfold readW
        rw [if_neg hg, if_pos h0, hp]
        simp only
        rw [hb']
        simp only
        rw [hn]
    · obtain ⟨p, hp⟩ := Option.isSome_iff_exists.mp (ha 0 2 rfl)
      have hp : tk ws 1 2 = some p := hp
      obtain ⟨b, hb⟩ := Option.isSome_iff_exists.mp (ha 1 0 rfl)
      have hb : tk ws 2 0 = some b := hb
      obtain ⟨a, hc⟩ := Option.isSome_iff_exists.mp (ha 2 0 rfl)
      have hc : tk ws 3 0 = some a := hc
      refine ⟨fun hl => ?_, fun hl => ⟨(false, p, b, a), ?_⟩⟩
      · unfold readW
        rw [if_neg hg, if_pos h0, hp]
        simp only
        rw [hb]
        simp only
        rw [hc]
        simp only
        exact if_pos hl
      · unfold readW
        rw [if_neg hg, if_pos h0, hp]
        simp only
        rw [hb]
        simp only
        rw [hc]
        simp only
        exact if_neg hl
theorem readW_no {ws : List Str} (h1 : ws[0]? ≠ some ("wheel" : Str)) (h2 : ws[0]? ≠ some ("grid" : Str)) : readW ws = .error 0 := by
  unfold readW
  rw [if_neg h2, if_neg h1]
end NX

namespace My
open PySem PySem.Spec PyProof.Rows L2 StX
def top (i : Nat) : Stmt := PySem.Challenge.pw_wheelreach_k25_wheels_changed_and_writte.main.body.getD i (.Pass ⟨0, 0, 0, 0⟩)
abbrev s_is_whole : Stmt := top 8
abbrev s_is_between : Stmt := top 9
abbrev s_number_in : Stmt := top 13
abbrev s_need_part : Stmt := top 22
abbrev s_take_wheel : Stmt := top 24
abbrev s_pen : Stmt := top 26
abbrev s_draw : Stmt := top 27
abbrev s_pick : Stmt := top 28
abbrev s_heard : Stmt := top 29
abbrev s_wheel : Stmt := top 30
abbrev s_of : Stmt := top 31
abbrev s_due : Stmt := top 32
abbrev s_bound : Stmt := top 33
abbrev s_made_right : Stmt := top 34
abbrev s_is_figures : Stmt := top 35
abbrev s_wrong : Stmt := top 36
abbrev s_bent : Stmt := top 37
abbrev s_read_right : Stmt := top 38
abbrev s_law : Stmt := top 39
abbrev s_BadNumber_init : Stmt := inClass (top 3) 0
abbrev s_BadWheel_init : Stmt := inClass (top 4) 0
abbrev s_BadText_init : Stmt := inClass (top 6) 0
abbrev s_Words_init : Stmt := inClass (top 14) 0
abbrev s_Words_upcoming : Stmt := inClass (top 14) 1
abbrev s_Words_take : Stmt := inClass (top 14) 2
abbrev s_Words_take_number : Stmt := inClass (top 14) 3
abbrev s_Words_finish : Stmt := inClass (top 14) 8
abbrev s_Wheel_init : Stmt := inClass (top 17) 1
abbrev s_Wheel_read : Stmt := inClass (top 17) 2
abbrev s_Wheel_eq : Stmt := inClass (top 17) 8
abbrev s_Wheel_str : Stmt := inClass (top 17) 9
abbrev s_Wheel_mul : Stmt := inClass (top 17) 10
abbrev s_Wheel_wider : Stmt := inClass (top 17) 15
abbrev s_Even_init : Stmt := inClass (top 18) 0
abbrev s_Exact_init : Stmt := inClass (top 19) 0
abbrev s_Lagging_init : Stmt := inClass (top 20) 0
abbrev s_Grid_init : Stmt := inClass (top 21) 1
abbrev lawFile : Str := PySem.Challenge.pw_wheelreach_k25_wheels_changed_and_writte.main.file
theorem sc_is_whole : FnScope ["value"] ["value"] (defScope s_is_whole) := ⟨rfl, rfl, rfl, by decide +kernel, rfl, by decide +kernel, by decide +kernel⟩
theorem sc_is_between : FnScope ["value", "low", "high"] ["value", "low", "high"] (defScope s_is_between) := ⟨rfl, rfl, rfl, by decide +kernel, rfl, by decide +kernel, by decide +kernel⟩
theorem sc_number_in : FnScope ["word"] ["word"] (defScope s_number_in) := ⟨rfl, rfl, rfl, by decide +kernel, rfl, by decide +kernel, by decide +kernel⟩
theorem sc_need_part : FnScope ["value", "least", "part"] ["value", "least", "part"] (defScope s_need_part) := ⟨rfl, rfl, rfl, by decide +kernel, rfl, by decide +kernel, by decide +kernel⟩
theorem sc_take_wheel : FnScope ["words", "period", "back"] ["words"] (defScope s_take_wheel) := ⟨rfl, rfl, rfl, by decide +kernel, rfl, by decide +kernel, by decide +kernel⟩
theorem sc_pen : FnScope ["_law_script"] ["_law_script"] (defScope s_pen) := ⟨rfl, rfl, rfl, by decide +kernel, rfl, by decide +kernel, by decide +kernel⟩
theorem sc_draw : FnScope ["_law_pen_here", "_law_many", "_law_digit", "_law_begun", "_law_raw", "_law_great", "_law_stirred"] ["_law_pen_here", "_law_many"] (defScope s_draw) := ⟨rfl, rfl, rfl, by decide +kernel, rfl, by decide +kernel, by decide +kernel⟩
theorem sc_pick : FnScope ["_law_pen_here", "_law_some"] ["_law_pen_here", "_law_some"] (defScope s_pick) := ⟨rfl, rfl, rfl, by decide +kernel, rfl, by decide +kernel, by decide +kernel⟩
theorem sc_heard : FnScope ["_law_ask", "_law_raised", "_law_told", "error"] ["_law_ask"] (defScope s_heard) := ⟨rfl, rfl, rfl, by decide +kernel, rfl, by decide +kernel, by decide +kernel⟩
theorem sc_wheel : FnScope ["_law_pen_here", "_law_period", "_law_kind", "_law_slip"] ["_law_pen_here"] (defScope s_wheel) := ⟨rfl, rfl, rfl, by decide +kernel, rfl, by decide +kernel, by decide +kernel⟩
theorem sc_of : FnScope ["_law_plain", "_law_period", "_law_back", "_law_ahead", "_law_trusted"] ["_law_plain"] (defScope s_of) := ⟨rfl, rfl, rfl, by decide +kernel, rfl, by decide +kernel, by decide +kernel⟩
theorem sc_due : FnScope ["_law_plain", "_law_period", "_law_back", "_law_ahead", "_law_trusted"] ["_law_plain"] (defScope s_due) := ⟨rfl, rfl, rfl, by decide +kernel, rfl, by decide +kernel, by decide +kernel⟩
theorem sc_bound : FnScope ["_law_made", "_law_n"] ["_law_made", "_law_n"] (defScope s_bound) := ⟨rfl, rfl, rfl, by decide +kernel, rfl, by decide +kernel, by decide +kernel⟩
theorem sc_made_right : FnScope ["_law_pen_here", "_law_plain", "_law_made", "_law_k", "_law_n", "_law_period", "_law_back", "_law_ahead", "_law_trusted", "_law_due_here", "_law_odd", "_law_bad", "_law_heard_here"] ["_law_pen_here", "_law_plain"] (defScope s_made_right) := ⟨rfl, rfl, rfl, by decide +kernel, rfl, by decide +kernel, by decide +kernel⟩
theorem sc_is_figures : FnScope ["_law_word", "_law_least", "_law_sign"] ["_law_word", "_law_least"] (defScope s_is_figures) := ⟨rfl, rfl, rfl, by decide +kernel, rfl, by decide +kernel, by decide +kernel⟩
theorem sc_wrong : FnScope ["_law_words", "_law_leasts", "_law_spot", "_law_least"] ["_law_words"] (defScope s_wrong) := ⟨rfl, rfl, rfl, by decide +kernel, rfl, by decide +kernel, by decide +kernel⟩
theorem sc_bent : FnScope ["_law_pen_here", "_law_words", "_law_some", "_law_way", "_law_spot", "_law_odd"] ["_law_pen_here", "_law_words"] (defScope s_bent) := ⟨rfl, rfl, rfl, by decide +kernel, rfl, by decide +kernel, by decide +kernel⟩
theorem sc_read_right : FnScope ["_law_pen_here", "_law_plain", "_law_words", "_law_again", "_law_wrong_here", "_law_text_so", "_law_odd"] ["_law_pen_here", "_law_plain"] (defScope s_read_right) := ⟨rfl, rfl, rfl, by decide +kernel, rfl, by decide +kernel, by decide +kernel⟩
theorem sc_law : FnScope ["_law_script", "_law_pen_here", "_law_turn", "_law_plain"] ["_law_script"] (defScope s_law) := ⟨rfl, rfl, rfl, by decide +kernel, rfl, by decide +kernel, by decide +kernel⟩
theorem sc_BadNumber_init : FnScope ["self", "value"] ["self", "value"] (defScope s_BadNumber_init) := ⟨rfl, rfl, rfl, by decide +kernel, rfl, by decide +kernel, by decide +kernel⟩
theorem sc_BadWheel_init : FnScope ["self", "part"] ["self", "part"] (defScope s_BadWheel_init) := ⟨rfl, rfl, rfl, by decide +kernel, rfl, by decide +kernel, by decide +kernel⟩
theorem sc_BadText_init : FnScope ["self", "line", "word"] ["self", "line", "word"] (defScope s_BadText_init) := ⟨rfl, rfl, rfl, by decide +kernel, rfl, by decide +kernel, by decide +kernel⟩
theorem sc_Words_init : FnScope ["self", "text", "line"] ["self", "text", "line"] (defScope s_Words_init) := ⟨rfl, rfl, rfl, by decide +kernel, rfl, by decide +kernel, by decide +kernel⟩
theorem sc_Words_upcoming : FnScope ["self"] ["self"] (defScope s_Words_upcoming) := ⟨rfl, rfl, rfl, by decide +kernel, rfl, by decide +kernel, by decide +kernel⟩
theorem sc_Words_take : FnScope ["self", "allowed", "word"] ["self", "allowed"] (defScope s_Words_take) := ⟨rfl, rfl, rfl, by decide +kernel, rfl, by decide +kernel, by decide +kernel⟩
theorem sc_Words_take_number : FnScope ["self", "low", "high", "word", "number"] ["self", "low", "high"] (defScope s_Words_take_number) := ⟨rfl, rfl, rfl, by decide +kernel, rfl, by decide +kernel, by decide +kernel⟩
theorem sc_Words_finish : FnScope ["self"] ["self"] (defScope s_Words_finish) := ⟨rfl, rfl, rfl, by decide +kernel, rfl, by decide +kernel, by decide +kernel⟩
theorem sc_Wheel_init : FnScope ["self", "period", "back", "ahead"] ["self", "period", "back", "ahead"] (defScope s_Wheel_init) := ⟨rfl, rfl, rfl, by decide +kernel, rfl, by decide +kernel, by decide +kernel⟩
theorem sc_Wheel_read : FnScope ["text", "words", "wheel"] ["text"] (defScope s_Wheel_read) := ⟨rfl, rfl, rfl, by decide +kernel, rfl, by decide +kernel, by decide +kernel⟩
theorem sc_Wheel_eq : FnScope ["self", "other"] ["self", "other"] (defScope s_Wheel_eq) := ⟨rfl, rfl, rfl, by decide +kernel, rfl, by decide +kernel, by decide +kernel⟩
theorem sc_Wheel_str : FnScope ["self"] ["self"] (defScope s_Wheel_str) := ⟨rfl, rfl, rfl, by decide +kernel, rfl, by decide +kernel, by decide +kernel⟩
theorem sc_Wheel_mul : FnScope ["self", "n"] ["self", "n"] (defScope s_Wheel_mul) := ⟨rfl, rfl, rfl, by decide +kernel, rfl, by decide +kernel, by decide +kernel⟩
theorem sc_Wheel_wider : FnScope ["self", "k"] ["self", "k"] (defScope s_Wheel_wider) := ⟨rfl, rfl, rfl, by decide +kernel, rfl, by decide +kernel, by decide +kernel⟩
theorem sc_Even_init : SupScope ["self", "period", "slip"] ["self", "period", "slip"] (defScope s_Even_init) := ⟨rfl, rfl, rfl, by decide +kernel, rfl, by decide +kernel, by decide +kernel, by decide +kernel⟩
theorem sc_Exact_init : SupScope ["self", "period"] ["self", "period"] (defScope s_Exact_init) := ⟨rfl, rfl, rfl, by decide +kernel, rfl, by decide +kernel, by decide +kernel, by decide +kernel⟩
theorem sc_Lagging_init : SupScope ["self", "period", "lag"] ["self", "period", "lag"] (defScope s_Lagging_init) := ⟨rfl, rfl, rfl, by decide +kernel, rfl, by decide +kernel, by decide +kernel, by decide +kernel⟩
theorem sc_Grid_init : SupScope ["self", "period"] ["self", "period"] (defScope s_Grid_init) := ⟨rfl, rfl, rfl, by decide +kernel, rfl, by decide +kernel, by decide +kernel, by decide +kernel⟩
section
variable {P : Program} {w : World} {K : PySem.W.Frag} {mg : Str → Option Value} {base : Heap}
/-! ### rules and words of our own -/
/-- x(e, ..), x a def whose promise is told of the arguments as they are passed -/
theorem pe_callR {X : Cx} {CX : CXT} {k : Nat} {f : Addr} {sp : Sp} {E : XK} {x : Str} {e : Expr} {es : List Expr} {t : TA} {p pos : Pos} (F : FnR X.prog X.w X.K X.mg X.base CX k f sp) (hr : Room k X.A) (hk : PySem.W.keepIn X.K (.ref f) = true) (hg : Gl X x) (hm : X.mg x = some (.ref f)) (hx : Passes CX X E)
    (ha : PA X (e :: es) t) (hd : (x == ("__debug__" : Str)) = false := by decide) (he : starEach (e :: es) X.env = (false, eval e X.env) :: starEach es X.env := by rfl) (hpl : (backTo pos (starEach es X.env)).any (·.1) = false := by rfl) :
    PE X (.Call (.Name x p) (e :: es) [] pos) (fun σ H Q => t σ H fun vs H1 => sp vs H1 Q E) := by
  refine ⟨fun pins s σ H Q I h => ?_⟩
  refine wpAny_Call_Name_kw (ld_glob I hg hm ?_ hd)
  refine PySem.W.callWith_K (h₀ := X.base) I.ok.mod.kin hk (thn (ha.run pos pins s σ H _ I h) fun us s1 ⟨vs, H1, I1, r, q⟩ => ⟨I1.kIn, ?_⟩) he hpl
  exact wpAny_call (run_fnR F hr hx I1 r q)
theorem pe_callR0 {X : Cx} {CX : CXT} {k : Nat} {f : Addr} {sp : Sp} {E : XK} {x : Str} {p pos : Pos} (F : FnR X.prog X.w X.K X.mg X.base CX k f sp) (hr : Room k X.A) (hk : PySem.W.keepIn X.K (.ref f) = true) (hg : Gl X x) (hm : X.mg x = some (.ref f)) (hx : Passes CX X E)
    (hd : (x == ("__debug__" : Str)) = false := by decide) : PE X (.Call (.Name x p) [] [] pos) (fun σ H Q => sp [] H Q E) := by
  refine ⟨fun pins s σ H Q I h => ?_⟩
  refine wpAny_Call_Name_kw (ld_glob I hg hm ?_ hd)
  exact PySem.W.callWith_K0 I.kIn hk (wpAny_call (run_fnR (us := []) F hr hx I .nil h))
/-- def f(*v) of the text -/
theorem star_ok {P : Program} {w : World} {K : PySem.W.Frag} {mg : Str → Option Value} {base : Heap} {k : Nat} {x qual pv : Str} {st : Stmt} {f : Addr} {fd : FuncData} {N : List Str} {sp : List V → Hp → VK → XK → Prop}
    (F : Fun K x qual st f fd) (S : FnScope N [pv] (defScope st))
    (hb : ∀ (kV doc pm : Value) (an : Option Addr) (cdv ct : Value) (rest : List Value), bindArgs (PySem.W.fnOf x qual (defArgs st) (defBody st) (defScope st) .none kV doc pm an cdv ct) ⟨rest, []⟩ = (newTuple rest >>= fun t => pure [(pv, t)]))
    (hbody : ∀ (cdv : Value) (A : Around) (outer : List Env) (s : Shared) (H : Hp) (vs : List V) (p : Addr) (H0 : Hp) (Q : VK) (E : XK), Room k (A.deeper (envOfC qual (defScope st) s.heap.objs.size f cdv)) → sp vs H0 Q E → vs.length ≤ sizeLine → H0 p = Option.none → H = upd H0 p (.tup vs) →
      ∃ t, PSs (cxOf CX0 P w K mg base N qual (defScope st) f cdv A outer s H E).nox (defBody st) t ∧ t { nx := fun _ H' => Q .non H', rt := Q } (start N [V.ref p]) H) :
    FnR P w K mg base CX0 (k + 1) f (fun vs H Q E => vs.length ≤ sizeLine ∧ sp vs H Q E) := by
  obtain ⟨oc, od, kV, doc, pm, an, cdv, ct, osl, rfl, lk, hcd⟩ := F.ex
  refine FnR.imp (fn_star (ps := []) (pv := pv) (CX := CX0) (sp := fun ws H Q E => ∃ (vs : List V) (p : Addr) (H0 : Hp), ws = [V.ref p] ∧ sp vs H0 Q E ∧ vs.length ≤ sizeLine ∧ H0 p = Option.none ∧ H = upd H0 p (.tup vs)) lk hcd S cxUp_none (fun us rest hl => ?_) fun A outer s H vs Q E hr h => ?_) fun vs H Q E h => ?_
  · have e : us = [] := List.length_eq_zero_iff.mp hl
    subst e
    show bindArgs _ ⟨rest, []⟩ = _
    rw [hb]
    rfl
  · obtain ⟨ws, p, H0, rfl, hs, hl, hp, rfl⟩ := h
    obtain ⟨t, ht, hq⟩ := hbody cdv A outer s _ ws p H0 Q E hr hs hl hp rfl
    exact ⟨t, ht.nox, hq⟩
  · exact ⟨[], vs, rfl, rfl, h.1, fun p hp => ⟨vs, p, H, rfl, h.2, h.1, hp, rfl⟩⟩
/-- all but p is as it was -/
structure Fr (p : Addr) (H H' : Hp) : Prop where
  keep : ∀ b o, b ≠ p → H b = some o → H' b = some o
  head : ∀ v xs, H p = some (.lst (v :: xs)) → ∃ ys, H' p = some (.lst (v :: ys))
instance {p : Addr} {H H' : Hp} : CoeFun (Fr p H H') fun _ => ∀ b o, b ≠ p → H b = some o → H' b = some o := ⟨Fr.keep⟩
theorem Fr.refl (p : Addr) (H : Hp) : Fr p H H := ⟨fun _ _ _ h => h, fun _ xs h => ⟨xs, h⟩⟩
theorem Fr.trans {p : Addr} {H H1 H2 : Hp} (a : Fr p H H1) (b : Fr p H1 H2) : Fr p H H2 := ⟨fun c o n h => b.keep c o n (a.keep c o n h), fun v xs h => by
  obtain ⟨ys, h1⟩ := a.head v xs h
  exact b.head v ys h1⟩
theorem same_fr {p : Addr} {H H' : Hp} (s : Same H H') : Fr p H H' := ⟨fun b o _ h => s b o h, fun _ xs h => ⟨xs, s _ _ h⟩⟩
theorem same_new {H : Hp} {p : Addr} {o : HO} (h : H p = Option.none) : Same H (upd H p o) := fun b u e => by
  rw [upd_ne (ne_of_none e h)]; exact e
theorem fr_upd {H : Hp} {p : Addr} {v : V} {xs ys : List V} (hp : H p = some (.lst (v :: xs))) : Fr p H (upd H p (.lst (v :: ys))) := ⟨fun b u n e => by rw [upd_ne n]; exact e, fun v' xs' e => by
  rw [hp] at e
  cases e
  exact ⟨ys, upd_same⟩⟩
theorem Fr.seq {K : PySem.W.Frag} {p a : Addr} {H H' : Hp} {xs : List V} (e : Fr p H H') (n : a ≠ p) (h : SqL K H a xs) : SqL K H' a xs := by
  rcases h with (h | ⟨o, h⟩) | h
  · exact .inl (.inl (e _ _ n h))
  · exact .inl (.inr ⟨o, e _ _ n h⟩)
  · exact .inr h
/-- the state of the draws: the cells, the index, what is left of a great one -/
def Pen (H : Hp) (p : Addr) (n : Nat) : Prop := ∃ (c : Addr) (ns : List Int) (i g : Int), H p = some (.lst [.ref c, .int i, .int g]) ∧ H c = some (.lst (ns.map V.int)) ∧ 0 ≤ i ∧ i ≤ (n : Int) ∧ 0 ≤ g ∧ ns.length ≤ 63
theorem Pen.same {H H' : Hp} {p : Addr} {n : Nat} (h : Pen H p n) (s : Same H H') : Pen H' p n := by
  obtain ⟨c, ns, i, g, h1, h2, h3⟩ := h
  exact ⟨c, ns, i, g, s _ _ h1, s _ _ h2, h3⟩
theorem Pen.mono {H : Hp} {p : Addr} {n m : Nat} (h : Pen H p n) (l : n ≤ m) : Pen H p m := by
  obtain ⟨c, ns, i, g, h1, h2, h3, h4, h5⟩ := h
  exact ⟨c, ns, i, g, h1, h2, h3, by omega, h5⟩
theorem pen_ne {H : Hp} {p c : Addr} {x y : V} {a : Addr} {ns : List Int} (h1 : H p = some (.lst [.ref a, x, y])) (h2 : H c = some (.lst (ns.map V.int))) : c ≠ p := fun e => by
  rw [e, h1] at h2
  cases ns with
  | nil => cases h2
  | cons z r => injection h2 with h2; injection h2 with h2; injection h2 with h2; cases h2
theorem Pen.at {H : Hp} {p : Addr} {n : Nat} (h : Pen H p n) : ∃ xs, H p = some (.lst xs) := by
  obtain ⟨c, ns, i, g, h1, _⟩ := h
  exact ⟨_, h1⟩
theorem Pen.neq {H : Hp} {p a : Addr} {n : Nat} (h : Pen H p n) (e : H a = Option.none) : a ≠ p := fun z => by
  obtain ⟨xs, h⟩ := h.at
  rw [z, h] at e; cases e
theorem if_true_of {c : Bool} {A B : Prop} (hc : c = true) (h : A) : if c = true then A else B := by
  rw [if_pos hc]; exact h
theorem if_false_of {c : Bool} {A B : Prop} (hc : c = false) (h : B) : if c = true then A else B := by
  rw [hc, if_neg Bool.false_ne_true]; exact h
theorem atI_in {ns : List Int} {j : Int} (h0 : 0 ≤ j) (h1 : j < (ns.length : Int)) : ∃ z, atI (ns.map V.int) j = some (V.int z) := by
  have h : j.toNat < ns.length := by omega
  exact ⟨ns[j.toNat], at_of (j := j.toNat) (by omega) (by rw [List.getElem?_map]; simp [h])⟩
theorem atI_any {xs : List V} {j : Int} (h0 : 0 ≤ j) (h1 : j < (xs.length : Int)) : ∃ z, z ∈ xs ∧ atI xs j = some z := by
  have h : j.toNat < xs.length := by omega
  exact ⟨xs[j.toNat], List.getElem_mem h, at_of (j := j.toNat) (by omega) (by simp [h])⟩
theorem cut_ints (ns : List Int) (lo hi : Option Int) : ∃ ms : List Int, cutV (ns.map V.int) lo hi = ms.map V.int ∧ ms.length ≤ ns.length := by
  refine ⟨(ns.drop (HT.sIx (ns.map V.int).length 0 lo)).take (HT.sIx (ns.map V.int).length (ns.map V.int).length hi - HT.sIx (ns.map V.int).length 0 lo), ?_, ?_⟩
  · unfold cutV
    rw [List.map_take, List.map_drop]
  · rw [List.length_take, List.length_drop]
    omega
theorem stir1 {r b d e : Int} (h0 : 0 ≤ r) (h1 : r < 2147483648) (b0 : 0 ≤ b) (b1 : b ≤ 100000) (d0 : 0 ≤ d) (d1 : d ≤ 100000) (e0 : 0 ≤ e) (e1 : e ≤ 100000) : (r + d * b + e).natAbs < 2 ^ 64 := by
  have h2 := Int.mul_nonneg d0 b0
  have h3 : d * b ≤ d * 100000 := Int.mul_le_mul_of_nonneg_left b1 d0
  omega
theorem stir2 {s b c d e : Int} (h0 : 0 ≤ s) (h1 : s < 2147483648) (b0 : 0 ≤ b) (b1 : b ≤ 100000) (c0 : 0 ≤ c) (c1 : c ≤ 100000) (d0 : 0 ≤ d) (d1 : d ≤ 100000) (e0 : 0 ≤ e) (e1 : e ≤ 100000) : (s * (2 * b + c) + d * b * b + e).natAbs < 2 ^ 64 := by
  have h2 := Int.mul_nonneg h0 (show 0 ≤ 2 * b + c by omega)
  have h3 : s * (2 * b + c) ≤ 2147483648 * (2 * b + c) := Int.mul_le_mul_of_nonneg_right (by omega) (by omega)
  have h4 := Int.mul_nonneg d0 b0
  have h5 := Int.mul_nonneg h4 b0
  have h6 : d * b ≤ d * 100000 := Int.mul_le_mul_of_nonneg_left b1 d0
  have h7 : d * b * b ≤ d * b * 100000 := Int.mul_le_mul_of_nonneg_left b1 h4
  omega
theorem small64 {i : Int} (h0 : 0 ≤ i) (h1 : i < 2147483648) : -(2 ^ 64) < i ∧ i < 2 ^ 64 := by omega
theorem fmod_pos {x m : Int} (hm : 0 < m) : 0 ≤ x.fmod m ∧ x.fmod m < m := by
  rw [Int.fmod_eq_emod_of_nonneg x (by omega)]
  exact ⟨Int.emod_nonneg _ (by omega), Int.emod_lt_of_pos _ hm⟩
theorem dp_ints {K : PySem.W.Frag} {H : Hp} : ∀ ns : List Int, DpAll K H (ns.map V.int) (ns.map PyData.int)
  | [] => .nil
  | z :: r => .cons (.int z) (dp_ints r)
theorem eqvAll_ints : ∀ ns : List Int, PyData.eqvAll (ns.map PyData.int) (ns.map PyData.int) = true
  | [] => by simp [PyData.eqvAll]
  | z :: r => by simp [PyData.eqvAll, PyData.eqv, eqvAll_ints r]
theorem eqv_ints (ns : List Int) : PyData.eqv (.list (ns.map PyData.int)) (.list (ns.map PyData.int)) = true := by
  rw [PyData.eqv]; exact eqvAll_ints ns

/-! ### defs told for callers around whom nothing is being shown by repr -/
def FnG (P : Program) (w : World) (K : PySem.W.Frag) (mg : Str → Option Value) (base : Heap) (CX : CXT) (k : Nat) (f : Addr) (sp : Sp) : Prop :=
  ∀ (A : Around) (outer : List Env) (s : Shared) (H : Hp) (us : List Value) (vs : List V) (Q : VK) (E : XK), A.guards = some [] → Room k A → Env0 P w K mg base A outer s H → Vals vs us → sp vs H Q E →
    codeAny (model P w) A (.call (.ref f) { pos := us, kw := [] }) (CR CX outer P w H s Q E) s
theorem FnG.of {P : Program} {w : World} {K : PySem.W.Frag} {mg : Str → Option Value} {base : Heap} {CX : CXT} {k : Nat} {f : Addr} {sp : Sp} (F : FnR P w K mg base CX k f sp) : FnG P w K mg base CX k f sp :=
  fun A o s H us vs Q E _ hr => F A o s H us vs Q E hr
theorem FnG.mk {P : Program} {w : World} {K : PySem.W.Frag} {mg : Str → Option Value} {base : Heap} {CX : CXT} {k : Nat} {x qual : Str} {st : Stmt} {f : Addr} {fd : FuncData} {N ps : List Str} {sp : Sp}
    (F : Fun K x qual st f fd) (S : FnScope N ps (defScope st)) (B : Binds K fd ps []) (len : ∀ vs H Q E, sp vs H Q E → vs.length = ps.length)
    (go : ∀ (cdv : Value) (A : Around) (outer : List Env) (s : Shared) (H : Hp) (vs : List V) (Q : VK) (E : XK), (A.deeper (envOfC qual (defScope st) s.heap.objs.size f cdv)).guards = some [] → Room k (A.deeper (envOfC qual (defScope st) s.heap.objs.size f cdv)) → sp vs H Q E →
      ∃ t, PSs (cxOf CX P w K mg base N qual (defScope st) f cdv A outer s H E) (defBody st) t ∧ t { nx := fun _ H1 => Q .non H1, rt := Q } (start N vs) H) : FnG P w K mg base CX (k + 1) f sp := by
  obtain ⟨oc, od, kV, doc, pm, an, cdv, ct, osl, e, lk, hcd⟩ := F.ex
  subst e
  intro A outer s H us vs Q E hg hr e0 rv hs
  have hl := len _ _ _ _ hs
  have hu : (us ++ []).length = ps.length := by rw [List.append_nil, ← hl]; exact rv.length.symm
  have b := B s us (e0.mod.kin.keeps fun b o z => (e0.bs b o z).1) hu
  rw [List.append_nil] at b
  exact LamX.run_ofS lk hcd S hr e0 b rv hl fun hr1 => go cdv A outer s H vs Q E hg hr1 hs
theorem FnG.mk0 {P : Program} {w : World} {K : PySem.W.Frag} {mg : Str → Option Value} {base : Heap} {k : Nat} {x qual : Str} {st : Stmt} {f : Addr} {fd : FuncData} {N ps : List Str} {sp : Sp}
    (F : Fun K x qual st f fd) (S : FnScope N ps (defScope st)) (B : Binds K fd ps []) (len : ∀ vs H Q E, sp vs H Q E → vs.length = ps.length)
    (go : ∀ (cdv : Value) (A : Around) (outer : List Env) (s : Shared) (H : Hp) (vs : List V) (Q : VK) (E : XK), (A.deeper (envOfC qual (defScope st) s.heap.objs.size f cdv)).guards = some [] → Room k (A.deeper (envOfC qual (defScope st) s.heap.objs.size f cdv)) → sp vs H Q E →
      ∃ t, PSs (cxOf CX0 P w K mg base N qual (defScope st) f cdv A outer s H E).nox (defBody st) t ∧ t { nx := fun _ H1 => Q .non H1, rt := Q } (start N vs) H) : FnG P w K mg base CX0 (k + 1) f sp :=
  FnG.mk F S B len fun cdv A outer s H vs Q E hg hr hs => by
    obtain ⟨t, ht, q⟩ := go cdv A outer s H vs Q E hg hr hs
    exact ⟨t, ht.nox, q⟩
/-- .. of a def whose code object is known -/
theorem FnG.mkL {P : Program} {w : World} {K : PySem.W.Frag} {mg : Str → Option Value} {base : Heap} {k : Nat} {x qual : Str} {st : Stmt} {f c : Addr} {N ps : List Str} {sp : Sp} {oc : Value} {od an : Option Addr} {osl : Array (Option Value)} {kV doc pm ct : Value}
    (lk : K.lookup f = some ⟨oc, od, .func (PySem.W.fnOf x qual (defArgs st) (defBody st) (defScope st) .none kV doc pm an (.ref c) ct), osl⟩) (hcd : PySem.W.codeIn K (.ref c) qual = true) (S : FnScope N ps (defScope st))
    (B : Binds K (PySem.W.fnOf x qual (defArgs st) (defBody st) (defScope st) .none kV doc pm an (.ref c) ct) ps []) (len : ∀ vs H Q E, sp vs H Q E → vs.length = ps.length)
    (go : ∀ (A : Around) (outer : List Env) (s : Shared) (H : Hp) (vs : List V) (Q : VK) (E : XK), (A.deeper (envOfC qual (defScope st) s.heap.objs.size f (.ref c))).guards = some [] → Room k (A.deeper (envOfC qual (defScope st) s.heap.objs.size f (.ref c))) → sp vs H Q E →
      ∃ t, PSs (cxOf CX0 P w K mg base N qual (defScope st) f (.ref c) A outer s H E).nox (defBody st) t ∧ t { nx := fun _ H1 => Q .non H1, rt := Q } (start N vs) H) : FnG P w K mg base CX0 (k + 1) f sp := by
  intro A outer s H us vs Q E hg hr e0 rv hs
  have hl := len _ _ _ _ hs
  have hu : (us ++ []).length = ps.length := by rw [List.append_nil, ← hl]; exact rv.length.symm
  have b := B s us (e0.mod.kin.keeps fun b o z => (e0.bs b o z).1) hu
  rw [List.append_nil] at b
  exact LamX.run_ofS lk hcd S hr e0 b rv hl fun hr1 => by
    obtain ⟨t, ht, q⟩ := go A outer s H vs Q E hg hr1 hs
    exact ⟨t, ht.nox, q⟩
/-- x(e, ..), x such a def -/
theorem pe_callG {X : Cx} {CX : CXT} {k : Nat} {f : Addr} {sp : Sp} {E : XK} {x : Str} {e : Expr} {es : List Expr} {t : TA} {p pos : Pos} (gu : X.A.guards = some []) (F : FnG X.prog X.w X.K X.mg X.base CX k f sp) (hr : Room k X.A) (hk : PySem.W.keepIn X.K (.ref f) = true) (hg : Gl X x) (hm : X.mg x = some (.ref f)) (hx : Passes CX X E)
    (ha : PA X (e :: es) t) (hd : (x == ("__debug__" : Str)) = false := by decide) (he : starEach (e :: es) X.env = (false, eval e X.env) :: starEach es X.env := by rfl) (hpl : (backTo pos (starEach es X.env)).any (·.1) = false := by rfl) :
    PE X (.Call (.Name x p) (e :: es) [] pos) (fun σ H Q => t σ H fun vs H1 => sp vs H1 Q E) := by
  refine ⟨fun pins s σ H Q I h => wpAny_Call_Name_kw (ld_glob I hg hm ?_ hd)⟩
  refine PySem.W.callWith_K (h₀ := X.base) I.ok.mod.kin hk (thn (ha.run pos pins s σ H _ I h) fun us s1 ⟨vs, H1, I1, r, q⟩ => ⟨I1.kIn, wpAny_call ?_⟩) he hpl
  refine codeAny_mono (F X.A X.stack s1 H1 us vs Q E gu hr I1.env0 r q) fun z s2 hz => ?_
  match z, hz with
  | .error er, hz => exact hx pins σ H1 s1 er s2 I1 hz
  | .ok (.ret u), hz => exact I1.after hz
/-! ### the law's entry, with tables of code objects and nothing being shown -/
section
variable {P : Program} {w : World} {K : PySem.W.Frag} {mg mb : Str → Option Value} {a : Addr} {cs : List (Addr × Addr)} {s : Shared} {vs : List Value} {ns : List Int}
open Classical in
/-- what is tracked at the entry: the script, if it is none of the written things, and the tables -/
noncomputable def H1st (K : PySem.W.Frag) (a : Addr) (cs : List (Addr × Addr)) (vs : List Value) (ns : List Int) : Hp := fun b =>
  if b = a ∧ K.lookup a = Option.none then some (.frz ({ cls := .type "list", data := .seq vs.toArray } : Obj) (.lst (ns.map V.int))) else if ∃ p ∈ cs, p.2 = b then some (.tbl #[]) else Option.none
theorem entry (KX : K.In s.heap) (G : s.heap.Ns mainGlobals mg) (Gb : s.heap.Ns builtinsNs mb) (bb : ∀ x : Str, x ≠ "__name__" → mb x = bootBuiltins x) (nl : s.heap.NoLimit) (ng : s.gens = #[])
    (tb : ∀ p ∈ cs, s.heap.get? p.2 = some ({ cls := .none, data := .fields #[] } : Obj)) (tk : ∀ p ∈ cs, K.lookup p.2 = Option.none) (ch : ∀ p ∈ cs, PySem.W.CodeHd s.heap p.1 p.2)
    (bm : ∃ (m : Addr) (o : Obj), mg "__builtins__" = some (.ref m) ∧ m ≠ builtinsNs ∧ s.heap.get? m = some o ∧ o.cls = .type "module" ∧ o.dict = some builtinsNs ∧ o.data = .plain)
    (sc : s.heap.get? a = some ({ cls := .type "list", data := .seq vs.toArray } : Obj)) (iv : IntsAre vs ns) (len : ns.length ≤ sizeLine) :
    ∃ (H : Hp) (base : Heap), K.In base ∧ base.Ns mainGlobals mg ∧ (∀ p ∈ cs, LamX.TabB base mg p.1 p.2) ∧ Env0 P w K mg base callerA [] s H ∧ (∀ p ∈ cs, H p.2 = some (.tbl #[])) ∧ SqL K H a (ns.map V.int) ∧
      ∀ b, H b = Option.none ∨ (∃ p ∈ cs, p.2 = b) ∨ ∃ o xs, H b = some (.frz o (.lst xs)) := by
  have rv := vals_ints iv
  have nt : ¬ ∃ p ∈ cs, p.2 = a := fun ⟨p, hp, e⟩ => by
    have z := tb p hp
    rw [e, sc] at z
    exact nomatch congrArg Obj.data (Option.some.inj z)
  -- what is tracked
  have tr : ∀ b u, H1st K a cs vs ns b = some u → (b = a ∧ K.lookup a = Option.none ∧ u = .frz ({ cls := .type "list", data := .seq vs.toArray } : Obj) (.lst (ns.map V.int))) ∨ ((∃ p ∈ cs, p.2 = b) ∧ u = .tbl #[]) := fun b u h => by
    unfold H1st at h
    split at h
    · rename_i c; exact .inl ⟨c.1, c.2, (Option.some.inj h).symm⟩
    · split at h
      · rename_i c; exact .inr ⟨c, (Option.some.inj h).symm⟩
      · cases h
  have tt : ∀ p ∈ cs, H1st K a cs vs ns p.2 = some (.tbl #[]) := fun p hp => by
    unfold H1st
    rw [if_neg (fun z : p.2 = a ∧ _ => nt ⟨p, hp, z.1⟩), if_pos ⟨p, hp, rfl⟩]
  have un : ∀ b o, s.heap.get? b = some o → (∀ v n, o.data ≠ .seq v n) → o.data ≠ .fields #[] → H1st K a cs vs ns b = Option.none := fun b o e n1 n2 => by
    match q : H1st K a cs vs ns b with
    | Option.none => rfl
    | some u =>
      exfalso
      rcases tr b u q with ⟨z, _, _⟩ | ⟨⟨p, hp, z⟩, _⟩
      · rw [z, sc] at e; cases e; exact n1 _ _ rfl
      · rw [← z, tb p hp] at e; cases e; exact n2 rfl
  have keep : ∀ {b : Addr} {o : Obj}, s.heap.get? b = some o → (∀ v n, o.data ≠ .seq v n) → o.data ≠ .fields #[] → (hidT s.heap (H1st K a cs vs ns)).get? b = some o := fun e n1 n2 => hidT_get e (un _ _ e n1 n2)
  have nsOf : ∀ {b : Addr} {m : Str → Option Value}, s.heap.Ns b m → (hidT s.heap (H1st K a cs vs ns)).Ns b m := fun {b m} ⟨o, es, ep, e, d, r⟩ => ⟨o, es, ep, keep e (fun v n z => by rw [d] at z; cases z) (fun z => by rw [d] at z; cases z), d, r⟩
  have kin : K.In (hidT s.heap (H1st K a cs vs ns)) := fun b o e => hidT_get (KX b o e) (by
    match q : H1st K a cs vs ns b with
    | Option.none => rfl
    | some u =>
      exfalso
      rcases tr b u q with ⟨z, z2, _⟩ | ⟨⟨p, hp, z⟩, _⟩
      · rw [z, z2] at e; cases e
      · rw [← z, tk p hp] at e; cases e)
  have md : L2.Mod K mg (hidT s.heap (H1st K a cs vs ns)) := { kin := kin, glob := nsOf G, blt := ⟨mb, nsOf Gb, bb⟩, nolimit := by obtain ⟨mc, q1, q2⟩ := nl; exact ⟨mc, nsOf q1, q2⟩ }
  have gl : ∀ p ∈ cs, mainGlobals ≠ p.2 := fun p hp z => by
    obtain ⟨o, es, ep, e, d, _⟩ := G
    rw [z, tb p hp] at e
    cases e
    cases d
  refine ⟨H1st K a cs vs ns, hidT s.heap (H1st K a cs vs ns), kin, nsOf G, fun p hp => ⟨?_, ?_, gl p hp⟩, ⟨rfl, md, fun b o e => of_hidT e, Nat.le_of_eq (hidT_size _ _), trivial, fun b hb => (List.not_mem_nil hb).elim, fun b u q => ?_, .of_eq ng⟩, tt, ?_, fun b => ?_⟩
  · obtain ⟨o, us, file, tf, flags, tg, inF, text, tt, q0, q1, q2, q3, rest⟩ := ch p hp
    refine ⟨o, us, file, tf, flags, tg, inF, text, tt, keep q0 (fun v n z => by rw [q2] at z; cases z) (fun z => ?_), q1, q2, q3, rest⟩
    rw [q2] at z
    cases z
    simp at q3
  · obtain ⟨m, o, b1, b2, b3, b4, b5, b6⟩ := bm
    refine ⟨m, o, b1, b2, fun z => ?_, fun z => ?_, keep b3 (fun v n z => by rw [b6] at z; cases z) (fun z => by rw [b6] at z; cases z), b4, b5, b6⟩
    · obtain ⟨o2, es, ep, e, d, _⟩ := G
      rw [z, e] at b3
      cases b3
      rw [d] at b6
      cases b6
    · rw [z, tb p hp] at b3
      cases b3
      cases b6
  · rcases tr b u q with ⟨z, _, z3⟩ | ⟨⟨p, hp, z⟩, z3⟩
    · rw [z, z3]
      exact ⟨sc, by rw [List.length_map]; exact len, vs, _, rv, sc⟩
    · rw [← z, z3]
      exact tb p hp
  · match q : K.lookup a with
    | Option.none => exact .inl (.inr ⟨_, by unfold H1st; rw [if_pos ⟨rfl, q⟩]⟩)
    | some o =>
      have e := KX a o q
      rw [sc] at e
      cases e
      exact .inr ⟨_, vs.toArray, _, q, rfl, rfl, rfl, by rw [List.size_toArray, iv.length]; exact len, by simpa using rv⟩
  · match q : H1st K a cs vs ns b with
    | Option.none => exact .inl rfl
    | some u =>
      rcases tr b u q with ⟨_, _, z3⟩ | ⟨z, _⟩
      · rw [z3]; exact .inr (.inr ⟨_, _, rfl⟩)
      · exact .inr (.inl z)
/-- what stood before the law stands behind it -/
theorem leave {H H2 : Hp} {s2 : Shared} (tb : ∀ p ∈ cs, s.heap.get? p.2 = some ({ cls := .none, data := .fields #[] } : Obj)) (ch : ∀ p ∈ cs, PySem.W.CodeHd s.heap p.1 p.2) (tt : ∀ p ∈ cs, H p.2 = some (.tbl #[]))
    (only : ∀ b, H b = Option.none ∨ (∃ p ∈ cs, p.2 = b) ∨ ∃ o xs, H b = some (.frz o (.lst xs))) (h1 : HOk P w H s.heap) (u : Un (frs []) [] H H2 s.heap s2.heap) (h2 : HOk P w H2 s2.heap) : OldK s.heap s2.heap := by
  have same : ∀ b o, ¬ (∃ p ∈ cs, p.2 = b) → s.heap.get? b = some o → s2.heap.get? b = some o := fun b o n e => by
    rcases only b with z | z | ⟨ob, xs, z⟩
    · exact u.keep b o e z List.not_mem_nil List.not_mem_nil
    · exact (n z).elim
    · have q1 := (h1 b _ z).1
      have q2 := (h2 b _ (u.frzs b ob _ z)).1
      rw [e] at q1
      rw [q2, Option.some.inj q1]
  have more : ∀ p ∈ cs, ∃ ps : Array Value, s2.heap.get? p.2 = some ({ cls := .none, data := .fields ps } : Obj) := fun p hp => by
    obtain ⟨ps, z⟩ := u.tbls p.2 #[] (tt p hp)
    exact ⟨_, h2 p.2 _ z⟩
  refine ⟨fun b o e => ?_, fun b o e => ?_⟩
  all_goals by_cases hb : ∃ p ∈ cs, p.2 = b
  · obtain ⟨p, hp, rfl⟩ := hb
    obtain ⟨ps, z⟩ := more p hp
    have e2 := e
    rw [tb p hp] at e2
    cases e2
    exact .inr (.inl ⟨((ch p hp).tab (tb p hp)).isCodeTable, rfl, #[], ps, rfl, by rw [Array.empty_append]; exact z⟩)
  · exact .inl (same b o hb e)
  · obtain ⟨p, hp, rfl⟩ := hb
    exact ⟨_, (more p hp).choose_spec⟩
  · exact ⟨o, same b o hb e⟩
end
/-- what is shown of the law behind the head: its promise, and the tables that it leans on -/
def LawG (l : PySem.W.OpenLaw) (w : World) (K : PySem.W.Frag) (k : Nat) (mg : Str → Option Value) (fa : Addr) (h : Heap) : Prop :=
  ∃ (cs : List (Addr × Addr)) (sp : Sp), (∀ p ∈ cs, h.get? p.2 = some ({ cls := .none, data := .fields #[] } : Obj)) ∧ (∀ p ∈ cs, K.lookup p.2 = Option.none) ∧ (∀ p ∈ cs, PySem.W.CodeHd h p.1 p.2) ∧
    (∀ (H : Hp) (a : Addr) (ns : List Int), ns.length ≤ 63 → (∀ z ∈ ns, Builtin.Int.intBits z ≤ 1048576) → (∀ p ∈ cs, H p.2 = some (.tbl #[])) → SqL K H a (ns.map V.int) → sp [.ref a] H (fun v _ => v = .bl true) fun _ _ _ => False) ∧
    ∀ base : Heap, K.In base → base.Ns mainGlobals mg → (∀ p ∈ cs, LamX.TabB base mg p.1 p.2) → FnG l.prog w K mg base CX0 k fa sp
/-- the table of the def x is empty behind the top -/
def TabOf (K : PySem.W.Frag) (mg : Str → Option Value) (h : Heap) (x : Str) : Prop := ∀ (f c P : Addr) (o : Obj) (fd : FuncData) (e : Value) (dd : Option Addr) (vs : Array Value) (sl : Array (Option Value)), mg x = some (.ref f) → K.lookup f = some o → o.data = .func fd → fd.code = .ref c →
  K.lookup c = some ⟨e, dd, .fields vs, sl⟩ → vs[11]? = some (.ref P) → h.get? P = some ({ cls := .none, data := .fields #[] } : Obj) ∧ PySem.W.CodeHd h c P
theorem walkG {l : PySem.W.OpenLaw} {k : Nat} {q : Program} {loose : List Str} {XP : (Str → Option Value) → Heap → Prop} {YP : World → Heap → Prop} {d : DefRec} {K : Params → PySem.W.Frag} (xs : List Str) (hxs : (xs.all fun x => (recsOf q).any fun e => e.name == x) = true)
    (hn : l.most = some 63) (hdf : d.params.defaults = []) (hr : Room k callerA) (hY : ∀ (w : World) (h : Heap), YP w h → (K w.params).In h)
    (F : ∀ (w : World) (mg : Str → Option Value) (fa : Addr) (h : Heap), (K w.params).In h → h.Ns mainGlobals mg → mg d.name = some (.ref fa) → (∀ x ∈ xs, TabOf (K w.params) mg h x) → LawG l w (K w.params) k mg fa h) :
    PySem.W.WalkO q loose XP YP l.row.toRowW d [] (fun f vs => PySem.call f vs) := by
  refine Att.attach_callB hn hdf fun w s₀ s mg mb fa o pm cd doc a vs ns G Y _ _ _ hmg hobj hints hlen hbits hg => ?_
  have KX := hY w _ Y
  have tabs : ∀ x ∈ xs, TabOf (K w.params) mg s.heap x := fun x hx f c P o fd e dd us sl m1 m2 m3 m4 m5 m6 => by
    obtain ⟨r, hr1, hr2⟩ := List.any_eq_true.mp (List.all_eq_true.mp hxs x hx)
    obtain ⟨f2, o2, fd2, c2, P2, t1, t2, t3, t4, t5, t6⟩ := G.T.tab r hr1
    rw [beq_iff_eq.mp hr2, m1] at t1
    cases t1
    rw [KX _ _ m2] at t2
    cases t2
    rw [m3] at t3
    cases t3
    rw [m4] at t4
    cases t4
    have hd := PySem.W.CodeHd.of t5 t6
    obtain ⟨⟨oc, vc, u1, _, u3, u4⟩, hP⟩ := t6
    rw [KX _ _ m5] at u1
    cases u1
    cases u3
    rw [m6] at u4
    cases u4
    exact ⟨hP, hd⟩
  obtain ⟨cs, sp, tb, tk, ch, hsp, FG⟩ := F w mg fa _ KX G.T.g hmg tabs
  obtain ⟨H, base, kin, ns1, TB, e0, tt, hS, only⟩ := entry (P := l.prog) (w := w) KX G.T.g G.T.b G.T.builtins G.T.nolimit hg tb tk ch G.T.bmain hobj hints (Nat.le_trans hlen (by decide))
  refine codeAny_mono (FG base kin ns1 TB callerA [] s H [.ref a] [.ref a] _ _ rfl hr e0 (.cons rfl .nil) (hsp H a ns hlen hbits tt hS)) fun r s2 h => ?_
  match r, h with
  | .ok (.ret u), ⟨v, H2, os, bare, un, hok, rel, e⟩ =>
    have e' : v = .bl true := e
    subst e'
    have eu : u = Value.bool true := rel
    subst eu
    exact ⟨rfl, leave tb ch tt only e0.hok un hok, os, bare⟩

/-! ### repr -/
/-- v is read as the datum d: as Dp, and dicts of no entry or one -/
inductive Dq (K : PySem.W.Frag) (H : Hp) : V → PyData → Prop where
  | dp {v : V} {d : PyData} : Dp K H v d → Dq K H v d
  | d0 {a : Addr} : H a = some (.dK []) → Dq K H (.ref a) (.dict [])
mutual
theorem dp_nodict {K : PySem.W.Frag} {H : Hp} : ∀ (d : PyData) (v : V), Dp K H v d → d.hasDict = false
  | .none, _, _ => rfl
  | .bool _, _, _ => rfl
  | .int _, _, _ => rfl
  | .str _, _, _ => rfl
  | .list ds, _, h => by
    cases h with
    | lst _ ha => exact dp_nodictAll ds _ ha
  | .tuple ds, _, h => by
    cases h with
    | tup _ ha => exact dp_nodictAll ds _ ha
  | .dict _, _, h => by cases h
theorem dp_nodictAll {K : PySem.W.Frag} {H : Hp} : ∀ (ds : List PyData) (vs : List V), DpAll K H vs ds → PyData.hasDictAll ds = false
  | [], _, _ => rfl
  | d :: ds, _, h => by
    cases h with
    | cons h1 h2 =>
      show (PyData.hasDict d || PyData.hasDictAll ds) = false
      rw [dp_nodict d _ h1, dp_nodictAll ds _ h2]
      rfl
end
theorem Dq.reads {X : Cx} {pins : List (Addr × Obj)} {σ : L2.St} {H : Hp} {s : Shared} (I : Inv X pins σ H s) {v : V} {d : PyData} {u : Value} (h : Dq X.K H v d) (r : RelV v u) : ∃ as, Reads s.heap u d as ∧ (d.hasDict = true → sysModules ∉ as) := by
  cases h with
  | dp h =>
    obtain ⟨as, q⟩ := Dp.reads I _ _ _ h r
    exact ⟨as, q, fun z => by rw [dp_nodict _ _ h] at z; cases z⟩
  | @d0 a h =>
    obtain rfl : u = Value.ref a := r
    obtain ⟨_, ns, vs, kv, o, es, ep, e1, e2, e3, e4⟩ := (show ObjOk X.prog X.w H s.heap a (.dK []) from I.hok a _ h)
    cases kv
    have e5 : es.toList = [] := by
      have e6 := e4.2.1
      generalize es.toList = l at e6
      cases e6
      rfl
    refine ⟨[a] ++ [] ++ [], Reads.dict e1 e2.1 e3 (by rw [e5]; exact .nil) (by rw [e5]; exact .nil), fun _ z => ?_⟩
    have z' : sysModules = a := by simpa using z
    rw [← z'] at ns
    simp at ns
def rRep (K : PySem.W.Frag) : List V → Hp → VK → Prop := fun vs H Q => ∃ v d, vs = [v] ∧ Dq K H v d ∧ d.showable = true ∧ d.depth ≤ 60 ∧ ((∃ i, d = .int i) ∨ d.shown.length ≤ sizeLine) ∧ Q (.str d.shown) H
theorem call_rep {X : Cx} (gu : X.A.guards = some []) (hu : X.A.units + 64 < cLine) : CallR X (.builtin "repr") (rRep X.K) := by
  intro pins s σ H xs us Q I r h
  obtain ⟨v, d, rfl, hd, h1, h2, h3, q⟩ := h
  obtain ⟨u, rfl, ru⟩ := vals1 r
  obtain ⟨as, rd, ns⟩ := hd.reads I ru
  have done : ∀ (h' : Heap) (t : Tok) (tk : Nat), (∀ b o, s.heap.get? b = some o → h'.get? b = some o) → EP X pins σ Q (.str d.shown t) { s with heap := h', toks := tk } := fun h' t tk k => ⟨.str d.shown, H, I.kept (t' := tk) k, ⟨t, rfl⟩, q⟩
  have same : ∀ t tk, EP X pins σ Q (.str d.shown t) { s with toks := tk } := fun t tk => done s.heap t tk fun _ _ z => z
  have h3 : (∀ i, d ≠ .int i) → d.shown.length ≤ sizeLine := fun n => h3.resolve_left fun ⟨i, z⟩ => n i z
  cases rd with
  | none => exact PySem.P.repr_of_none (same _ _)
  | bool b => exact PySem.P.repr_of_bool (same _ _)
  | int i t => exact PySem.P.repr_of_int (of_decide_eq_true h1) (same _ _)
  | str x t => exact PySem.P.repr_of_str (same _ _) (h3 fun _ z => nomatch z)
  | list e1 e2 e3 e4 => exact PySem.repr_of_reads' (.list e1 e2 e3 e4) h1 ns gu (by omega) (fun _ _ z => z) (fun h' u tk k => done h' u tk k) (h3 fun _ z => nomatch z)
  | tuple e1 e2 e3 e4 => exact PySem.repr_of_reads' (.tuple e1 e2 e3 e4) h1 ns gu (by omega) (fun _ _ z => z) (fun h' u tk k => done h' u tk k) (h3 fun _ z => nomatch z)
  | dict e1 e2 e3 e4 e5 => exact PySem.repr_of_reads' (.dict e1 e2 e3 e4 e5) h1 ns gu (by omega) (fun _ _ z => z) (fun h' u tk k => done h' u tk k) (h3 fun _ z => nomatch z)

/-- the target a, b within a comprehension: told of the written part and of the number of names -/
theorem pg_tup2 {X : Cx} {es : List Expr} {k : Nat} {t : TGs} {pos : Pos} (K : PySem.W.Frag) (n : Nat) (hK : X.K = K) (hc : X.calm = true) (h : PGs X es t) (hn : (assignEach es X.env).length = n := by rfl) (hst : (assignEach es X.env).findIdx? (·.1) = none := by rfl) : PG X (.Tuple es k pos) (gTup K n t) := by
  subst hK
  exact pg_tup hc h hn hst
theorem ix_tup2 {X : Cx} (K : PySem.W.Frag) (hK : X.K = K) : IxR X (rIxT K) := by
  subst hK
  exact ix_tup
theorem ix_list2 {X : Cx} (K : PySem.W.Frag) (hK : X.K = K) : IxR X (rIxL K) := by
  subst hK
  exact ix_list
theorem op_eqD2 {X : Cx} (K : PySem.W.Frag) (hK : X.K = K) (hu : X.A.units + 64 < cLine) : OpR X (compareOp .Eq) (rEqD K) := by
  subst hK
  exact op_eqD hu
theorem sl_list2 {X : Cx} (K : PySem.W.Frag) (hK : X.K = K) : SlR X (rSlL K) := by
  subst hK
  exact sl_list
theorem op_in_seq2 {X : Cx} (K : PySem.W.Frag) (hK : X.K = K) : OpR X (compareOp .In) (rIn K false) := by
  subst hK
  exact op_in_seq
theorem op_notIn_seq2 {X : Cx} (K : PySem.W.Frag) (hK : X.K = K) : OpR X (compareOp .NotIn) (rIn K true) := by
  subst hK
  exact op_notIn_seq

/-! ### values by kinds; numbers that are refused -/
/-- v is of the built-in kind t -/
inductive NT (H : Hp) : V → String → Prop where
  | non : NT H .non "NoneType"
  | bl (b : Bool) : NT H (.bl b) "bool"
  | int (i : Int) : NT H (.int i) "int"
  | str (x : Str) : NT H (.str x) "str"
  | lst {a : Addr} {xs : List V} : H a = some (.lst xs) → NT H (.ref a) "list"
  | tup {a : Addr} {xs : List V} : H a = some (.tup xs) → NT H (.ref a) "tuple"
  | dic {a : Addr} {kvs : List (Key × V)} : H a = some (.dK kvs) → NT H (.ref a) "dict"
theorem NT.same {H H' : Hp} (s : Same H H') {v : V} {t : String} (h : NT H v t) : NT H' v t := by
  cases h with
  | non => exact .non
  | bl b => exact .bl b
  | int i => exact .int i
  | str x => exact .str x
  | lst e => exact .lst (s _ _ e)
  | tup e => exact .tup (s _ _ e)
  | dic e => exact .dic (s _ _ e)
theorem NT.ty {K : PySem.W.Frag} {H : Hp} {v : V} {t : String} (h : NT H v t) : TyX K H v (.type t) := by
  cases h with
  | non => exact .base .non
  | bl b => exact .base (.bl b)
  | int i => exact .base (.int i)
  | str x => exact .base (.str x)
  | lst e => exact .base (.lst e)
  | tup e => exact .base (.tup e)
  | dic e => exact .base (.dK e)
theorem NT.kit {H : Hp} {v : V} {t : String} (h : NT H v t) : ∃ b1 b2, kitB t "int" = some b1 ∧ kitB t "bool" = some b2 ∧ (b1 && !b2) = (t == "int") := by
  cases h with
  | non => exact ⟨false, false, by decide +kernel, by decide +kernel, by decide +kernel⟩
  | bl b => exact ⟨true, true, by decide +kernel, by decide +kernel, by decide +kernel⟩
  | int i => exact ⟨true, false, by decide +kernel, by decide +kernel, by decide +kernel⟩
  | str x => exact ⟨false, false, by decide +kernel, by decide +kernel, by decide +kernel⟩
  | lst e => exact ⟨false, false, by decide +kernel, by decide +kernel, by decide +kernel⟩
  | tup e => exact ⟨false, false, by decide +kernel, by decide +kernel, by decide +kernel⟩
  | dic e => exact ⟨false, false, by decide +kernel, by decide +kernel, by decide +kernel⟩
theorem NT.tupB {H : Hp} {v : V} {t : String} (h : NT H v t) : kitB t "tuple" = some (t == "tuple") := by
  cases h <;> decide +kernel
theorem NT.isInt {H : Hp} {v : V} {t : String} (h : NT H v t) (e : t = "int") : ∃ i, v = .int i := by
  cases h with
  | int i => exact ⟨i, rfl⟩
  | _ => exact absurd e (by decide)
/-- def f(*v) of the text, which may raise -/
theorem star_okX {x qual pv : Str} {k : Nat} {st : Stmt} {f : Addr} {fd : FuncData} {N : List Str} {sp : List V → Hp → VK → XK → Prop}
    (F : Fun K x qual st f fd) (S : FnScope N [pv] (defScope st))
    (hb : ∀ (kV doc pm : Value) (an : Option Addr) (cdv ct : Value) (rest : List Value), bindArgs (PySem.W.fnOf x qual (defArgs st) (defBody st) (defScope st) .none kV doc pm an cdv ct) { pos := rest, kw := [] } = (newTuple rest >>= fun t => pure [(pv, t)]))
    (go : ∀ (cdv : Value) (A : Around) (outer : List Env) (s : Shared) (H : Hp) (vs : List V) (p : Addr) (H0 : Hp) (Q : VK) (E : XK), Room k (A.deeper (envOfC qual (defScope st) s.heap.objs.size f cdv)) → sp vs H0 Q E → vs.length ≤ sizeLine → H0 p = Option.none → H = upd H0 p (.tup vs) →
      ∃ t, PSs (cxOf (L2.CX P w) P w K mg base N qual (defScope st) f cdv A outer s H E) (defBody st) t ∧ t { nx := fun _ H1 => Q .non H1, rt := Q } (start N [V.ref p]) H) :
    FnR P w K mg base (L2.CX P w) (k + 1) f (fun vs H Q E => vs.length ≤ sizeLine ∧ sp vs H Q E) := by
  obtain ⟨oc, od, kV, doc, pm, an, cdv, ct, osl, e, lk, hcd⟩ := F.ex
  subst e
  refine FnR.imp (fn_star (ps := []) (pv := pv) (CX := L2.CX P w) (sp := fun ws H Q E => ∃ (vs : List V) (p : Addr) (H0 : Hp), ws = [V.ref p] ∧ sp vs H0 Q E ∧ vs.length ≤ sizeLine ∧ H0 p = Option.none ∧ H = upd H0 p (.tup vs)) lk hcd S cxUp (fun us rest hl => ?_) fun A outer s H vs Q E hr h => ?_) fun vs H Q E h => ?_
  · have e : us = [] := List.length_eq_zero_iff.mp hl
    subst e
    show bindArgs _ { pos := rest, kw := [] } = _
    rw [hb]
    rfl
  · obtain ⟨ws, p, H0, rfl, hs, hl, hp, rfl⟩ := h
    exact go cdv A outer s _ ws p H0 Q E hr hs hl hp rfl
  · exact ⟨[], vs, rfl, rfl, h.1, fun p hp => ⟨vs, p, H, rfl, h.2, h.1, hp, rfl⟩⟩

/-! ### the error BadWheel -/
/-- what the written part says of BadWheel, at C, and of its __init__ -/
structure BadW (K : PySem.W.Frag) (mg : Str → Option Value) where
  C : Addr
  f : Addr
  fd : FuncData
  oex : OexC K C
  iC : PySem.W.findIn K (.ref C) "__init__" = some (some (.ref f))
  tI : PySem.W.typeIn K (.ref f) = some (.type "function")
  F : Fun K "__init__" "BadWheel.__init__" s_BadWheel_init f fd
  no : PySem.W.findIn K (.ref C) "part" = some Option.none
  m : mg "BadWheel" = some (.ref C)
/-- the init of an error of one field -/
def spInit1 (K : PySem.W.Frag) (f : Str) : Sp := fun vs H Q _ => ∃ (a C : Addr) (v : V), vs = [.ref a, v] ∧ OexC K C ∧ PySem.W.findIn K (.ref C) f = some Option.none ∧ H a = some (exo a C Option.none) ∧
  ∀ dx, H dx = Option.none → dx ≠ a → Q .non (upd (upd H dx (exd dx [(f, v)])) a (exo a C (some dx)))
theorem ok_badW_init (B : BadW K mg) : FnOk P w K mg base CX0 1 B.f B.fd ["self", "part"] (spInit1 K "part") := by
  refine B.F.ok sc_BadWheel_init (fun vs H Q E h => ?_) (fun cdv A outer s H vs Q E hr h => ?_)
  · obtain ⟨a, C, v, rfl, _⟩ := h; rfl
  · obtain ⟨a, C, v, rfl, T, no, ha, k⟩ := h
    refine ⟨_, pss_one (ps_ost (pv 0) (pv 1)), ?_⟩
    exact ⟨_, rfl, _, rfl, a, C, rfl, T, no, .inl ⟨ha, k⟩⟩
theorem b_badW (B : BadW K mg) : Binds K B.fd ["self", "part"] [] := B.F.binds (ps := ["self", "part"]) fun _ _ _ _ _ _ us hl => match us, hl with | [_, _], _ => rfl
theorem pmk_badW {X : Cx} {x : Expr} {te : TE} {p pos : Pos} (B : BadW X.K X.mg) (hr : Room 2 X.A) (hg : Gl X "BadWheel") (he : PE X x te)
    (hs : starEach (x :: []) X.env = (false, eval x X.env) :: starEach [] X.env := by rfl) (hpl : (backTo pos (starEach [] X.env)).any (·.1) = false := by rfl) : PMk X (.Call (.Name "BadWheel" p) [x] [] pos) (tMkO B.C (spInit1 X.K "part") [] (tCons te tNil)) :=
  pmk_oex (CX := CX0) (dvs := []) (ds := []) B.oex B.iC B.tI (ok_badW_init B) hr (b_badW B) .nil (fun _ _ _ _ _ _ _ z => z.elim) hg B.m (pa_cons he pa_nil hs) (by decide) hs hpl
/-- how its reading is answered -/
theorem badW_fin (B : BadW K mg) {H : Hp} {a : Addr} {v : V} {Q : XK} (ha : H a = Option.none) (k : ∀ (d : Addr) (H2 : Hp), Same H H2 → H d = Option.none → H2 d = some (.xd [("part", v)]) → Q (.ref B.C) (some d) H2) :
    spInit1 K "part" (.ref a :: ([v] ++ [])) (upd H a (exo a B.C Option.none)) (fun v' H2 => v' = .non ∧ ∃ (d : Addr) (fs : List (Str × V)), H2 a = some (exo a B.C (some d)) ∧ H2 d = some (exd d fs) ∧ H d = Option.none ∧ Q (.ref B.C) (some d) (upd (del H2 a) d (.xd fs))) (fun _ _ _ => False) := by
  refine ⟨a, B.C, v, rfl, B.oex, B.no, upd_same, fun dx h1 h2 => ⟨rfl, dx, _, upd_same, by rw [upd_ne h2, upd_same], ?_, ?_⟩⟩
  · rw [upd_ne h2] at h1; exact h1
  · have hd : H dx = Option.none := by rw [upd_ne h2] at h1; exact h1
    refine k dx _ (fun b o e => ?_) hd upd_same
    have n1 := ne_of_none e ha
    have n2 := ne_of_none e hd
    rw [upd_ne n2, del_ne n1, upd_ne n1, upd_ne n2, upd_ne n1]
    exact e

/-! ### the errors BadNumber and BadText beside BadWheel -/
structure BadN (K : PySem.W.Frag) (mg : Str → Option Value) where
  C : Addr
  f : Addr
  fd : FuncData
  oex : OexC K C
  iC : PySem.W.findIn K (.ref C) "__init__" = some (some (.ref f))
  tI : PySem.W.typeIn K (.ref f) = some (.type "function")
  F : Fun K "__init__" "BadNumber.__init__" s_BadNumber_init f fd
  no : PySem.W.findIn K (.ref C) "value" = some Option.none
  m : mg "BadNumber" = some (.ref C)
theorem ok_badN_init (B : BadN K mg) : FnOk P w K mg base CX0 1 B.f B.fd ["self", "value"] (spInit1 K "value") := by
  refine B.F.ok sc_BadNumber_init (fun vs H Q E h => ?_) (fun cdv A outer s H vs Q E hr h => ?_)
  · obtain ⟨a, C, v, rfl, _⟩ := h; rfl
  · obtain ⟨a, C, v, rfl, T, no, ha, k⟩ := h
    exact ⟨_, pss_one (ps_ost (pv 0) (pv 1)), _, rfl, _, rfl, a, C, rfl, T, no, .inl ⟨ha, k⟩⟩
theorem b_badN (B : BadN K mg) : Binds K B.fd ["self", "value"] [] := B.F.binds (ps := ["self", "value"]) fun _ _ _ _ _ _ us hl => match us, hl with | [_, _], _ => rfl
theorem pmk_badN {X : Cx} {x : Expr} {te : TE} {p pos : Pos} (B : BadN X.K X.mg) (hr : Room 2 X.A) (hg : Gl X "BadNumber") (he : PE X x te)
    (hs : starEach (x :: []) X.env = (false, eval x X.env) :: starEach [] X.env := by rfl) (hpl : (backTo pos (starEach [] X.env)).any (·.1) = false := by rfl) : PMk X (.Call (.Name "BadNumber" p) [x] [] pos) (tMkO B.C (spInit1 X.K "value") [] (tCons te tNil)) :=
  pmk_oex (CX := CX0) (dvs := []) (ds := []) B.oex B.iC B.tI (ok_badN_init B) hr (b_badN B) .nil (fun _ _ _ _ _ _ _ z => z.elim) hg B.m (pa_cons he pa_nil hs) (by decide) hs hpl
/-- how the reading of an error of one field is answered -/
theorem bad_fin1 {K : PySem.W.Frag} {C : Addr} {f : Str} (oex : OexC K C) (no : PySem.W.findIn K (.ref C) f = some Option.none) {H : Hp} {a : Addr} {v : V} {Q : XK} (ha : H a = Option.none) (k : ∀ (d : Addr) (H2 : Hp), Same H H2 → H d = Option.none → H2 d = some (.xd [(f, v)]) → Q (.ref C) (some d) H2) :
    spInit1 K f (.ref a :: ([v] ++ [])) (upd H a (exo a C Option.none)) (fun v' H2 => v' = .non ∧ ∃ (d : Addr) (fs : List (Str × V)), H2 a = some (exo a C (some d)) ∧ H2 d = some (exd d fs) ∧ H d = Option.none ∧ Q (.ref C) (some d) (upd (del H2 a) d (.xd fs))) (fun _ _ _ => False) := by
  refine ⟨a, C, v, rfl, oex, no, upd_same, fun dx h1 h2 => ?_⟩
  have hd : H dx = Option.none := by rw [upd_ne h2] at h1; exact h1
  refine ⟨rfl, dx, _, upd_same, by rw [upd_ne h2, upd_same], hd, k dx _ (fun b o e => ?_) hd upd_same⟩
  have n1 := ne_of_none e ha
  have n2 := ne_of_none e hd
  rw [upd_ne n2, del_ne n1, upd_ne n1, upd_ne n2, upd_ne n1]
  exact e
theorem badN_fin (B : BadN K mg) {H : Hp} {a : Addr} {v : V} {Q : XK} (ha : H a = Option.none) (k : ∀ (d : Addr) (H2 : Hp), Same H H2 → H d = Option.none → H2 d = some (.xd [("value", v)]) → Q (.ref B.C) (some d) H2) :
    spInit1 K "value" (.ref a :: ([v] ++ [])) (upd H a (exo a B.C Option.none)) (fun v' H2 => v' = .non ∧ ∃ (d : Addr) (fs : List (Str × V)), H2 a = some (exo a B.C (some d)) ∧ H2 d = some (exd d fs) ∧ H d = Option.none ∧ Q (.ref B.C) (some d) (upd (del H2 a) d (.xd fs))) (fun _ _ _ => False) := bad_fin1 B.oex B.no ha k
structure BadT (K : PySem.W.Frag) (mg : Str → Option Value) where
  C : Addr
  f : Addr
  fd : FuncData
  oex : OexC K C
  iC : PySem.W.findIn K (.ref C) "__init__" = some (some (.ref f))
  tI : PySem.W.typeIn K (.ref f) = some (.type "function")
  F : Fun K "__init__" "BadText.__init__" s_BadText_init f fd
  no1 : PySem.W.findIn K (.ref C) "line" = some Option.none
  no2 : PySem.W.findIn K (.ref C) "word" = some Option.none
  m : mg "BadText" = some (.ref C)
def spInit2 (K : PySem.W.Frag) : Sp := fun vs H Q _ => ∃ (a C : Addr) (v u : V), vs = [.ref a, v, u] ∧ OexC K C ∧ PySem.W.findIn K (.ref C) "line" = some Option.none ∧ PySem.W.findIn K (.ref C) "word" = some Option.none ∧ H a = some (exo a C Option.none) ∧
  ∀ dx, H dx = Option.none → dx ≠ a → Q .non (upd (upd H dx (exd dx [("word", u), ("line", v)])) a (exo a C (some dx)))
theorem two_up {H : Hp} {a d : Addr} {x y z : HO} (h : d ≠ a) : upd (upd (upd H d x) a z) d y = upd (upd H d y) a z := by
  funext b
  by_cases hb : b = d
  · rw [hb, upd_same, upd_ne h, upd_same]
  · rw [upd_ne hb]
    by_cases hc : b = a
    · rw [hc, upd_same, upd_same]
    · rw [upd_ne hc, upd_ne hc, upd_ne hb, upd_ne hb]
theorem ok_badT_init (B : BadT K mg) : FnOk P w K mg base CX0 1 B.f B.fd ["self", "line", "word"] (spInit2 K) := by
  refine B.F.ok sc_BadText_init (fun vs H Q E h => ?_) (fun cdv A outer s H vs Q E hr h => ?_)
  · obtain ⟨a, C, v, u, rfl, _⟩ := h; rfl
  · obtain ⟨a, C, v, u, rfl, T, no1, no2, ha, k⟩ := h
    refine ⟨_, pss_cons (ps_ost (pv 0) (pv 1)) (pss_one (ps_ost (pv 0) (pv 2))), _, rfl, _, rfl, a, C, rfl, T, no1, .inl ⟨ha, fun dx h1 h2 => ?_⟩⟩
    refine ⟨_, rfl, _, rfl, a, C, rfl, T, no2, .inr ⟨dx, _, upd_same, by rw [upd_ne h2, upd_same], (by show 1 ≤ 900; decide), ?_⟩⟩
    rw [two_up h2]
    exact k dx h1 h2
theorem b_badT (B : BadT K mg) : Binds K B.fd ["self", "line", "word"] [] := B.F.binds (ps := ["self", "line", "word"]) fun _ _ _ _ _ _ us hl => match us, hl with | [_, _, _], _ => rfl
theorem pmk_badT {X : Cx} {x y : Expr} {te tf : TE} {p pos : Pos} (B : BadT X.K X.mg) (hr : Room 2 X.A) (hg : Gl X "BadText") (he : PE X x te) (hf : PE X y tf)
    (hs : starEach (x :: [y]) X.env = (false, eval x X.env) :: starEach [y] X.env := by rfl) (hs2 : starEach (y :: []) X.env = (false, eval y X.env) :: starEach [] X.env := by rfl) (hpl : (backTo pos (starEach [y] X.env)).any (·.1) = false := by rfl) : PMk X (.Call (.Name "BadText" p) [x, y] [] pos) (tMkO B.C (spInit2 X.K) [] (tCons te (tCons tf tNil))) :=
  pmk_oex (CX := CX0) (dvs := []) (ds := []) B.oex B.iC B.tI (ok_badT_init B) hr (b_badT B) .nil (fun _ _ _ _ _ _ _ z => z.elim) hg B.m (pa_cons he (pa_cons hf pa_nil hs2) hs) (by decide) hs hpl
theorem badT_fin (B : BadT K mg) {H : Hp} {a : Addr} {v u : V} {Q : XK} (ha : H a = Option.none) (k : ∀ (d : Addr) (H2 : Hp), Same H H2 → H d = Option.none → H2 d = some (.xd [("word", u), ("line", v)]) → Q (.ref B.C) (some d) H2) :
    spInit2 K (.ref a :: ([v, u] ++ [])) (upd H a (exo a B.C Option.none)) (fun v' H2 => v' = .non ∧ ∃ (d : Addr) (fs : List (Str × V)), H2 a = some (exo a B.C (some d)) ∧ H2 d = some (exd d fs) ∧ H d = Option.none ∧ Q (.ref B.C) (some d) (upd (del H2 a) d (.xd fs))) (fun _ _ _ => False) := by
  refine ⟨a, B.C, v, u, rfl, B.oex, B.no1, B.no2, upd_same, fun dx h1 h2 => ?_⟩
  have hd : H dx = Option.none := by rw [upd_ne h2] at h1; exact h1
  refine ⟨rfl, dx, _, upd_same, by rw [upd_ne h2, upd_same], hd, k dx _ (fun b o e => ?_) hd upd_same⟩
  have n1 := ne_of_none e ha
  have n2 := ne_of_none e hd
  rw [upd_ne n2, del_ne n1, upd_ne n1, upd_ne n2, upd_ne n1]
  exact e

/-- e.f, a property of the object's class, whichever that is -/
def tPropW (K : PySem.W.Frag) (f : Str) (p g : Addr) (sp : Sp) (dvs : List V) (E : XK) (ta : TE) : TE := fun σ H Q => ta σ H fun x H1 => ∃ a C dx fs, x = .ref a ∧ H1 a = some (.ins C dx fs) ∧ Cls K C ∧ PropOf K C f p g ∧ sp (.ref a :: dvs) H1 Q E
theorem pe_propW {X : Cx} {CX : CXT} {k : Nat} {g : Addr} {f : Str} {fd : FuncData} {ps : List Str} {sp : Sp} {dvs : List V} {ds : List Value} {E : XK} {e : Expr} {pos : Pos} {ta : TE} (he : PE X e ta) (p : Addr) (F : FnOk X.prog X.w X.K X.mg X.base CX k g fd ps sp) (hr : Room (k + 1) X.A) (hb : Binds X.K fd ps ds) (hd : Vals dvs ds) (hx : Passes CX X.nox E)
    (hab : attributeBase e f X.env (eval e X.env) = eval e X.env) : PE X (.Attribute e f pos) (tPropW X.K f p g sp dvs E ta) := by
  refine ⟨fun pins s σ H Q I h => ?_⟩
  refine attr_of hab (thn (he.run pins s σ H _ I h) fun u s1 ⟨x, H1, I1, rx, a, C, dx, fs, ex, ea, c, hp, q⟩ => ?_)
  subst ex
  obtain rfl : u = Value.ref a := rx
  exact getprop_ok I1 ea c hp F hr hb hd hx q

/-! ### classes: made by a def with a star, static methods -/
/-- def f(p1, p2, *v) of the text -/
theorem star2_ok {x qual p1 p2 pv : Str} {k : Nat} {st : Stmt} {f : Addr} {fd : FuncData} {N : List Str} {sp : V → V → List V → Hp → VK → XK → Prop}
    (F : Fun K x qual st f fd) (S : FnScope N [p1, p2, pv] (defScope st))
    (hb : ∀ (kV doc pm : Value) (an : Option Addr) (cdv ct : Value) (a b : Value) (rest : List Value), bindArgs (PySem.W.fnOf x qual (defArgs st) (defBody st) (defScope st) .none kV doc pm an cdv ct) ⟨a :: b :: rest, []⟩ = (newTuple rest >>= fun t => pure [(p1, a), (p2, b), (pv, t)]))
    (go : ∀ (cdv : Value) (A : Around) (outer : List Env) (s : Shared) (H : Hp) (a b : V) (vs : List V) (p : Addr) (H0 : Hp) (Q : VK) (E : XK), Room k (A.deeper (envOfC qual (defScope st) s.heap.objs.size f cdv)) → sp a b vs H0 Q E → vs.length ≤ sizeLine → H0 p = Option.none → H = upd H0 p (.tup vs) →
      ∃ t, PSs (cxOf CX0 P w K mg base N qual (defScope st) f cdv A outer s H E).nox (defBody st) t ∧ t { nx := fun _ H1 => Q .non H1, rt := Q } (start N [a, b, V.ref p]) H) :
    FnR P w K mg base CX0 (k + 1) f (fun vs H Q E => ∃ a b rest, vs = a :: b :: rest ∧ rest.length ≤ sizeLine ∧ sp a b rest H Q E) := by
  obtain ⟨oc, od, kV, doc, pm, an, cdv, ct, osl, e, lk, hcd⟩ := F.ex
  subst e
  refine FnR.imp (fn_star (ps := [p1, p2]) (pv := pv) (CX := CX0) (sp := fun ws H Q E => ∃ (a b : V) (vs : List V) (p : Addr) (H0 : Hp), ws = [a, b, V.ref p] ∧ sp a b vs H0 Q E ∧ vs.length ≤ sizeLine ∧ H0 p = Option.none ∧ H = upd H0 p (.tup vs)) lk hcd S cxUp_none (fun us rest hl => ?_) fun A outer s H vs Q E hr h => ?_) fun vs H Q E h => ?_
  · match us, hl with
    | [a, b], _ =>
      show bindArgs _ { pos := a :: b :: rest, kw := [] } = _
      rw [hb]
      rfl
  · obtain ⟨a, b, ws, p, H0, rfl, hs, hl, hp, rfl⟩ := h
    obtain ⟨t, ht, hq⟩ := go cdv A outer s _ a b ws p H0 Q E hr hs hl hp rfl
    exact ⟨t, ht.nox, hq⟩
  · obtain ⟨a, b, rest, rfl, hl, hs⟩ := h
    exact ⟨[a, b], rest, rfl, rfl, hl, fun p hp => ⟨a, b, rest, p, H, rfl, hs, hl, hp, rfl⟩⟩
/-- C(e, ..), the init told of its arguments as they are passed -/
def tMkR (C : Addr) (sp : Sp) (E : XK) (t : TA) : TE := fun σ H Q => t σ H fun vs H1 => ∀ x dx, H1 x = Option.none → H1 dx = Option.none → dx ≠ x → sp (.ref x :: vs) (upd (upd H1 dx (.own x)) x (.ins C dx [])) (fun v H2 => v = .non ∧ Q (.ref x) H2) E
section
variable {X : Cx} {CX : CXT} {k : Nat} {f C p g : Addr} {sp : Sp} {E : XK} {x m : Str} {e o : Expr} {es : List Expr} {kws : List Keyword} {ta : TE} {t tk : TA} {pos apos q : Pos} {mc : Value}
theorem run_mkR {pins : List (Addr × Obj)} {σ : L2.St} {H : Hp} {s : Shared} {Q : VK} {us : List Value} {vs : List V} (M : Mk X.K C f) (F : FnR X.prog X.w X.K X.mg X.base CX k f sp) (hr : Room (k + 1) X.A) (hx : Passes CX X E) (I : Inv X pins σ H s) (r : Vals vs us)
    (h : ∀ x dx, H x = Option.none → H dx = Option.none → dx ≠ x → sp (.ref x :: vs) (upd (upd H dx (.own x)) x (.ins C dx [])) (fun v H2 => v = .non ∧ Q (.ref x) H2) E) : wpAny (model X.prog X.w) X.A (call (.ref C) us) (EP X pins σ Q) X.xe s := by
  have hq := h (s.heap.objs.size + 1) s.heap.objs.size (I.hok.fresh (Nat.le_succ _)) (I.hok.fresh (Nat.le_refl _)) (Nat.ne_of_lt (Nat.lt_succ_self _))
  have I2 := Inv.made (C := C) I
  have r1 : Vals (V.ref (s.heap.objs.size + 1) :: vs) (Value.ref (s.heap.objs.size + 1) :: us) := .cons rfl r
  refine wpAny_call (make_map (f := f) I.kIn M.makes M.init (beq_iff_eq.mp M.fn) (codeAny_mono (F _ X.stack _ _ (Value.ref (s.heap.objs.size + 1) :: us) _ _ E (hr.make C us []) (I2.env0.make C us []) r1 hq) fun r s2 hz => ?_))
  match r, hz with
  | .error er, hz => exact hx pins σ _ _ er s2 I2 hz
  | .ok (.ret u), hz =>
    obtain ⟨v, H3, I3, rv, ev, q3⟩ := I2.after hz
    subst ev
    exact ⟨rv, ⟨V.ref (s.heap.objs.size + 1), H3, I3, rfl, q3⟩⟩
theorem pe_mkR (M : Mk X.K C f) (F : FnR X.prog X.w X.K X.mg X.base CX k f sp) (hr : Room (k + 1) X.A) (hx : Passes CX X E) (hg : Gl X x) (hm : X.mg x = some (.ref C)) (ha : PA X (e :: es) t)
    (hdb : (x == ("__debug__" : Str)) = false := by decide) (he : starEach (e :: es) X.env = (false, eval e X.env) :: starEach es X.env := by rfl) (hpl : (backTo pos (starEach es X.env)).any (·.1) = false := by rfl) : PE X (.Call (.Name x q) (e :: es) [] pos) (tMkR C sp E t) := by
  refine ⟨fun pins s σ H Q I h => wpAny_Call_Name_kw (ld_glob I hg hm ?_ hdb)⟩
  refine PySem.W.callWith_K (h₀ := X.base) I.ok.mod.kin M.kp (thn (ha.run pos pins s σ H _ I h) fun us s1 ⟨vs, H1, I1, r, q⟩ => ⟨I1.kIn, ?_⟩) he hpl
  exact run_mkR M F hr hx I1 r q
/-- C.m is a static method: its record at p, its def at g -/
structure CStat (K : PySem.W.Frag) (C : Addr) (mc : Value) (m : Str) (p g : Addr) : Prop where
  at_ : PySem.W.findCls K (.ref C) mc m = some (.get (.builtin "staticmethod.__get__") (.ref p) .none (.ref C))
  rc : ∃ rest, PySem.W.recIn K p "staticmethod" = some (.ref g :: rest)
  kp : PySem.W.keepIn K (.ref g) = true
theorem getmethst_ok {pins : List (Addr × Obj)} {σ : L2.St} {H : Hp} {s : Shared} {A : Around} {E : Value → Shared → Prop} {pl : Sem Bool} {Q : Value × List Value → Shared → Prop} (I : Inv X pins σ H s) (r : ClX.CRead X.K C mc) (k : CStat X.K C mc m p g)
    (h : ∀ s', Inv X pins σ H s' → Q (.ref g, []) s') : wpAny (model X.prog X.w) A (getMethod (.ref C) m pl) Q E s := by
  obtain ⟨rest, hp⟩ := k.rc
  refine PySem.W.method_cls I.kIn r.ga (PySem.W.cls_bind I.kIn r.rd k.at_ ?_)
  exact wpAny_call (PySem.W.sm_get (s := { s with toks := s.toks + 1 }) I.kIn hp (PySem.W.handed_on rfl (h _ (I.tok _))))
/-- C.m(e, ..) -/
def tStat (C : Addr) (sp : Sp) (E : XK) (ta : TE) (t : TA) : TE := fun σ H Q => ta σ H fun x H1 => x = .ref C ∧ t σ H1 fun vs H2 => sp vs H2 Q E
theorem pe_stat {pl : Sem Bool} (he : PE X o ta) (r : ClX.CRead X.K C mc) (c : CStat X.K C mc m p g) (F : FnR X.prog X.w X.K X.mg X.base CX k g sp) (hr : Room k X.A) (hx : Passes CX X E) (ha : PA X (e :: es) t)
    (hst : starEach (e :: es) X.env = (false, eval e X.env) :: starEach es X.env := by rfl) (hpl : (backTo pos (starEach es X.env)).any (·.1) = false := by rfl)
    (ht : eval (.Call (.Attribute o m apos) (e :: es) [] pos) X.env = (do
      let ov ← eval o X.env
      standAt apos.atName
      let (f, first) ← holding [ov] (getMethod ov m pl)
      callWith pos f first (backTo pos (starEach (e :: es) X.env)) (backToKw pos (keywordEach [] X.env))) := by rfl) :
    PE X (.Call (.Attribute o m apos) (e :: es) [] pos) (tStat C sp E ta t) := by
  refine ⟨fun pins s σ H Q I h => PySem.W.methodCall_KW (pl := pl) (thn (he.run pins s σ H _ I h) fun u s1 ⟨x, H1, I1, rx, ex, q⟩ => ?_) ht⟩
  subst ex
  obtain rfl : u = Value.ref C := rx
  refine getmethst_ok I1 r c fun s2 I2 => ?_
  refine PySem.W.callWith_K (h₀ := X.base) I.ok.mod.kin c.kp (thn (ha.run pos pins s2 σ H1 _ I2 q) fun us s3 ⟨vs, H2, I3, rv, q2⟩ => ⟨I3.kIn, ?_⟩) hst hpl
  exact wpAny_call (run_fnR F hr hx I3 rv q2)
theorem pe_stat0 {pl : Sem Bool} (he : PE X o ta) (r : ClX.CRead X.K C mc) (c : CStat X.K C mc m p g) (F : FnR X.prog X.w X.K X.mg X.base CX k g sp) (hr : Room k X.A) (hx : Passes CX X E)
    (ht : eval (.Call (.Attribute o m apos) [] [] pos) X.env = (do
      let ov ← eval o X.env
      standAt apos.atName
      let (f, first) ← holding [ov] (getMethod ov m pl)
      callWith pos f first (backTo pos (starEach [] X.env)) (backToKw pos (keywordEach [] X.env))) := by rfl) :
    PE X (.Call (.Attribute o m apos) [] [] pos) (tStat C sp E ta tNil) := by
  refine ⟨fun pins s σ H Q I h => PySem.W.methodCall_KW (pl := pl) (thn (he.run pins s σ H _ I h) fun u s1 ⟨x, H1, I1, rx, ex, q⟩ => ?_) ht⟩
  subst ex
  obtain rfl : u = Value.ref C := rx
  refine getmethst_ok I1 r c fun s2 I2 => ?_
  exact PySem.W.callWith_K0 I2.kIn c.kp (wpAny_call (run_fnR (us := []) F hr hx I2 .nil q))
/-- C.m(k = v, ..) -/
theorem pe_statK {pl : Sem Bool} {fd : FuncData} {ps ks : List Str} {gu : List Value → List Value → List Value} {gV : List V → List V → List V} (he : PE X o ta) (r : ClX.CRead X.K C mc) (c : CStat X.K C mc m p g) (F : FnOk X.prog X.w X.K X.mg X.base CX k g fd ps sp) (hr : Room k X.A)
    (hb : KBinds X.K fd ps ks gu gV) (hx : Passes CX X E) (hkw : PK X kws tk) (hall : (backToKw pos (keywordEach kws X.env)).all (·.1.isSome) = true := by rfl) (hks : (backToKw pos (keywordEach kws X.env)).filterMap (·.1) = ks := by rfl)
    (hpl : ((backTo pos (starEach [] X.env)).any (·.1) || (backToKw pos (keywordEach kws X.env)).any (·.1.isNone)) = false := by rfl)
    (ht : eval (.Call (.Attribute o m apos) [] kws pos) X.env = (do
      let ov ← eval o X.env
      standAt apos.atName
      let (f, first) ← holding [ov] (getMethod ov m pl)
      callWith pos f first (backTo pos (starEach [] X.env)) (backToKw pos (keywordEach kws X.env))) := by rfl) :
    PE X (.Call (.Attribute o m apos) [] kws pos) (tStat C (fun zs => sp (gV [] zs)) E ta tk) := by
  refine ⟨fun pins s σ H Q I h => PySem.W.methodCall_KW (pl := pl) (thn (he.run pins s σ H _ I h) fun u s1 ⟨x, H1, I1, rx, ex, q⟩ => ?_) ht⟩
  subst ex
  obtain rfl : u = Value.ref C := rx
  refine getmethst_ok I1 r c fun s2 I2 => ?_
  refine PySem.W.callWith_KW0 (h₀ := X.base) I.ok.mod.kin c.kp hall (thn (hkw.run pos pins s2 σ H1 _ I2 q) fun ws s3 ⟨zs, H2, I3, rz, q2⟩ => ⟨I3.kIn, ?_⟩) hpl
  rw [hks]
  exact run_fnk (us := []) F hr hb hx I3 .nil rz q2
end

/-! ### what an own class says of in, not in, ==, len, truth -/
section
variable {X : Cx} {CX : CXT} {k : Nat} {C f : Addr} {fd : FuncData} {ps : List Str} {sp : Sp} {E : XK}
/-- an instance as the walk knows it -/
theorem ins_at {pins : List (Addr × Obj)} {σ : L2.St} {H : Hp} {s : Shared} {a dx : Addr} {fs : List (Str × V)} (I : Inv X pins σ H s) (e : H a = some (.ins C dx fs)) : ∃ (o : Obj) (od : Option Obj), PySem.W.InstAt s.heap a o C od := by
  obtain ⟨mA, O, _, _, _, _⟩ := ins_get I.hok e
  obtain ⟨od, J, _⟩ := O.look
  exact ⟨_, _, J⟩
/-- x in a: the own __contains__ answers a truth -/
def rInO (C : Addr) (sp : Sp) (E : XK) : R2 := fun x y H Q => ∃ (a dx : Addr) (fs : List (Str × V)), y = .ref a ∧ H a = some (.ins C dx fs) ∧ sp [.ref a, x] H (fun v H' => ∃ b, v = .bl b ∧ Q (.bl b) H') E
def rNotInO (C : Addr) (sp : Sp) (E : XK) : R2 := fun x y H Q => ∃ (a dx : Addr) (fs : List (Str × V)), y = .ref a ∧ H a = some (.ins C dx fs) ∧ sp [.ref a, x] H (fun v H' => ∃ b, v = .bl b ∧ Q (.bl (!b)) H') E
theorem op_inO (F : FnOk X.prog X.w X.K X.mg X.base CX k f fd ps sp) (hr : Room k X.A) (hb : Binds X.K fd ps []) (hx : Passes CX X E) (hs : PySem.W.findIn X.K (.ref C) "__contains__" = some (some (.ref f))) (hf : PySem.W.isFn X.K (.ref f) = true) : OpR X (compareOp .In) (rInO C sp E) := by
  intro pins s σ H x y v u Q I rx ry h
  obtain ⟨a, dx, fs, rfl, ha, q⟩ := h
  obtain rfl : u = Value.ref a := ry
  obtain ⟨o, od, J⟩ := ins_at I ha
  obtain ⟨m, hF⟩ := I.fr
  refine PySem.W.in_K hF I.ok.mod.kin J hs hf (thn (run_fn (us := [.ref a, v]) (vs := [.ref a, x]) F hr hb .nil hx I (.cons rfl (.cons rx .nil)) q) fun r s1 z => ?_)
  obtain ⟨w, H1, I1, rw1, b, rfl, q1⟩ := z
  cases rw1
  exact wpAny_truthy_bool ⟨.bl b, H1, I1, rfl, q1⟩
theorem op_notInO (F : FnOk X.prog X.w X.K X.mg X.base CX k f fd ps sp) (hr : Room k X.A) (hb : Binds X.K fd ps []) (hx : Passes CX X E) (hs : PySem.W.findIn X.K (.ref C) "__contains__" = some (some (.ref f))) (hf : PySem.W.isFn X.K (.ref f) = true) : OpR X (compareOp .NotIn) (rNotInO C sp E) := by
  intro pins s σ H x y v u Q I rx ry h
  obtain ⟨a, dx, fs, rfl, ha, q⟩ := h
  obtain rfl : u = Value.ref a := ry
  obtain ⟨o, od, J⟩ := ins_at I ha
  obtain ⟨m, hF⟩ := I.fr
  refine PySem.W.notIn_K hF I.ok.mod.kin J hs hf (thn (run_fn (us := [.ref a, v]) (vs := [.ref a, x]) F hr hb .nil hx I (.cons rfl (.cons rx .nil)) q) fun r s1 z => ?_)
  obtain ⟨w, H1, I1, rw1, b, rfl, q1⟩ := z
  cases rw1
  exact wpAny_truthy_bool ⟨.bl (!b), H1, I1, rfl, q1⟩
/-- a == b, both instances of the class -/
def rEqO (C : Addr) (sp : Sp) (E : XK) : R2 := fun x y H Q => ∃ (a b dx dy : Addr) (fs gs : List (Str × V)), x = .ref a ∧ y = .ref b ∧ H a = some (.ins C dx fs) ∧ H b = some (.ins C dy gs) ∧ sp [.ref a, .ref b] H (fun v H' => ∃ b, v = .bl b ∧ Q (.bl b) H') E
theorem op_eqO (F : FnOk X.prog X.w X.K X.mg X.base CX k f fd ps sp) (hr : Room k X.A) (hb : Binds X.K fd ps []) (hx : Passes CX X E) (hs : PySem.W.findIn X.K (.ref C) "__eq__" = some (some (.ref f))) (hf : PySem.W.isFn X.K (.ref f) = true) : OpR X (compareOp .Eq) (rEqO C sp E) := by
  intro pins s σ H x y v u Q I rx ry h
  obtain ⟨a, b, dx, dy, fs, gs, rfl, rfl, ha, hb2, q⟩ := h
  obtain rfl : v = Value.ref a := rx
  obtain rfl : u = Value.ref b := ry
  obtain ⟨o, od, J⟩ := ins_at I ha
  obtain ⟨o2, od2, J2⟩ := ins_at I hb2
  obtain ⟨m, hF⟩ := I.fr
  show wpAny (model X.prog X.w) X.A (richCompare .Eq (.ref a) (.ref b)) (EP X pins σ Q) X.xe s
  refine PySem.W.cmp_K (op := .Eq) (tb := .ref C) hr.units0 hF I.ok.mod.kin J J2.type (by simp [PySem.W.notFirst]) hs hf (thn (run_fn (us := [.ref a, .ref b]) (vs := [.ref a, .ref b]) F hr hb .nil hx I (.cons rfl (.cons rfl .nil)) q) fun r s1 z => ?_)
  obtain ⟨w, H1, I1, rw1, c, rfl, q1⟩ := z
  cases rw1
  exact ⟨.bl c, H1, I1, rfl, q1⟩
/-- len(a) -/
def rLenO (C : Addr) (sp : Sp) (E : XK) : List V → Hp → VK → Prop := fun xs H Q => ∃ (a dx : Addr) (fs : List (Str × V)), xs = [.ref a] ∧ H a = some (.ins C dx fs) ∧ sp [.ref a] H (fun v H' => ∃ n : Int, v = .int n ∧ 0 ≤ n ∧ n < 2 ^ 63 ∧ Q (.int n) H') E
end
/-! ### len, !=, truth of an own class -/
section
variable {prog : Program} {w : World} {A : Around} {E : Value → Shared → Prop} {s : Shared} {K : PySem.W.Frag} {x C L f : Addr} {h₀ : Heap} {m : Str → Option Value} {ox : Obj} {od : Option Obj} {b tb : Value}
theorem neO_entry {Q : Fin → Shared → Prop} (hu : A.units < cLine) (X : K.In s.heap) (I : PySem.W.InstAt s.heap x ox C od) (hs : PySem.W.findIn K (.ref C) "__eq__" = some (some (.ref f))) (hf : PySem.W.isFn K (.ref f) = true)
    (hcall : wpAny (model prog w) A (call (.ref f) [.ref x, b]) (fun v s' => ∃ c, v = .bool c ∧ Q (.done (.ret (.bool (!c)))) s') E s) :
    wpAny (model prog w) A (Builtin.«object.__ne__» ⟨[.ref x, b], []⟩) Q E s := by
  unfold Builtin.«object.__ne__»
  repeat (first
    | with_reducible refine wpAny_cRoomFor hu ?_
    | (refine wpAny_bind (m := callSpecialIfBound? (.ref x) (Str.ofString "__eq__") [b])
        (PySem.W.ifBound_K X I hs hf (wpAny_mono hcall (fun r s' hr => by
          obtain ⟨c, rfl, hq⟩ := hr
          repeat (first | exact hq | exact wpAny_pure hq | exact wpAny_truthy_bool hq | (refine wpAny_bind (m := truthy (.bool _)) (wpAny_truthy_bool ?_)) | wp_step)) fun _ _ e => e)))
    | wp_step)
theorem ifBound_objNe {M : Model} {args : List Value} {Q : Option Value → Shared → Prop} (X : K.In s.heap) (I : PySem.W.InstAt s.heap x ox C od) (hs : PySem.W.findIn K (.ref C) "__ne__" = some (some (.builtin "object.__ne__")))
    (h : wpAny M A (call (.builtin "object.__ne__") (.ref x :: args)) (fun v => Q (some v)) E s) : wpAny M A (callSpecialIfBound? (.ref x) "__ne__" args) Q E s := by
  simp only [callSpecialIfBound?, bindSpecialIfBound?]
  refine wpAny_holding (wpAny_bind (wpAny_bind (wpAny_bind (I.type.here ((PySem.W.looks_findIn X hs).here ?_)))))
  refine wpAny_bind (wpAny_askSetting (wpAny_ite ?_))
  have fin : wpAny M A (call (.builtin "object.__ne__") ([.ref x] ++ args) >>= fun v => pure (some v)) Q E s := wpAny_bind (wpAny_mono h (fun v s' h' => wpAny_pure h') fun _ _ h' => h')
  split
  · exact wpAny_bind (wpAny_of_eq (F.cmp_object.ne.bind _) (wpAny_pure (by exact fin)))
  · exact wpAny_tryCatch (wpAny_bind (wpAny_of_eq (F.cmp_object.ne.bind _) (wpAny_pure (by exact fin))))
theorem ne_own {Q : Value → Shared → Prop} (hu : A.units + 1 < cLine) (F : PyProof.Rows.Fr h₀ L s.heap m) (X₀ : K.In h₀) (I : PySem.W.InstAt s.heap x ox C od) (hb : PySem.W.Looks (model prog w) s.heap (typeOf b) tb) (hn : PySem.W.notFirst K C tb = true)
    (hm : PySem.W.mroIn K C (.type "object") = some true) (he : PySem.W.findIn K (.ref C) "__ne__" = some (some (.builtin "object.__ne__")))
    (hs : PySem.W.findIn K (.ref C) "__eq__" = some (some (.ref f))) (hf : PySem.W.isFn K (.ref f) = true)
    (h : wpAny (model prog w) A.in1 (call (.ref f) [.ref x, b]) (fun v s' => ∃ c, v = .bool c ∧ Q (.bool (!c)) s') E s) : wpAny (model prog w) A (richCompare .NotEq (.ref x) b) Q E s := by
  have X := X₀.keeps F.keep
  have one : wpAny (model prog w) A (tryCompare (.ref x) (cmpInfo .NotEq).2.1 b) (fun r s' => ∃ v, r = some v ∧ Q v s') E s := by
    unfold tryCompare
    refine wpAny_bind (ifBound_objNe X I he (wpAny_call (codeAny_call_builtin PySem.F.cmp_object.ne.plain PySem.F.cmpEntry_ne (PySem.W.check_slot PySem.F.cmpKind_ne PySem.F.cmpSplit_ne (I.type.andThen (PySem.W.looks_mroIn X hm)) (PySem.F.cmpArgs_ne _ _)
      (neO_entry (A := A.in1) hu X I hs hf (wpAny_mono h (fun v s' hv => ?_) fun _ _ e => e))))))
    obtain ⟨c, rfl, hq⟩ := hv
    exact ⟨c, rfl, wpAny_pure ⟨_, rfl, hq⟩⟩
  unfold richCompare
  simp only [oneThing_ref]
  refine wpAny_holding (wpAny_bind (wpAny_cRoomFor (Nat.lt_of_succ_lt hu) ?_))
  refine wpAny_bind (I.type.here (wpAny_bind (hb.here ?_)))
  split
  · rename_i q
    have e : PySem.W.subIn K tb (.ref C) = some false := by
      rcases Bool.or_eq_true_iff.mp hn with e | e
      · rw [beq_iff_eq.mp e] at q; simp at q
      · exact beq_iff_eq.mp e
    refine wpAny_bind ((PySem.W.looks_subIn X e).here ?_)
    simp only [Bool.false_eq_true, if_false]
    refine wpAny_bind (wpAny_mono one (fun r s' z => ?_) fun _ _ e => e)
    obtain ⟨v, rfl, hq⟩ := z
    exact wpAny_pure hq
  · refine wpAny_bind (wpAny_pure ?_)
    simp only [Bool.false_eq_true, if_false]
    refine wpAny_bind (wpAny_mono one (fun r s' z => ?_) fun _ _ e => e)
    obtain ⟨v, rfl, hq⟩ := z
    exact wpAny_pure hq
end
section
variable {X : Cx} {CX : CXT} {k : Nat} {C f : Addr} {fd : FuncData} {ps : List Str} {sp : Sp} {E : XK}
/-- the callee runs deeper -/
theorem run_fnA {A' : Around} {pins : List (Addr × Obj)} {σ : L2.St} {H : Hp} {s : Shared} {Q : VK} {us : List Value} {vs : List V} (F : FnOk X.prog X.w X.K X.mg X.base CX k f fd ps sp) (hr : Room k A') (hA : ∀ {s : Shared} {H : Hp}, Env0 X.prog X.w X.K X.mg X.base X.A X.stack s H → Env0 X.prog X.w X.K X.mg X.base A' X.stack s H) (hb : Binds X.K fd ps []) (hx : Passes CX X E)
    (I : Inv X pins σ H s) (r : Vals vs us) (h : sp vs H Q E) : wpAny (model X.prog X.w) A' (call (.ref f) us) (EP X pins σ Q) X.xe s := by
  have hl : (us ++ []).length = ps.length := by rw [List.append_nil, ← r.length]; exact F.len _ _ _ _ h
  have hb' := hb s us I.kIn hl
  rw [List.append_nil] at hb'
  refine wpAny_call (codeAny_mono (F.run A' X.stack s H ⟨us, []⟩ us vs Q E hr (hA I.env0) hb' r h) fun r s' hq => ?_)
  cases r with
  | error e => exact hx pins σ H s e s' I hq
  | ok fl =>
    cases fl with
    | ret u => exact I.after hq
    | next => exact False.elim hq
    | brk => exact False.elim hq
    | cont => exact False.elim hq
theorem run_fn1 {pins : List (Addr × Obj)} {σ : L2.St} {H : Hp} {s : Shared} {Q : VK} {us : List Value} {vs : List V} (F : FnOk X.prog X.w X.K X.mg X.base CX k f fd ps sp) (hr : Room (k + 1) X.A) (hb : Binds X.K fd ps []) (hx : Passes CX X E)
    (I : Inv X pins σ H s) (r : Vals vs us) (h : sp vs H Q E) : wpAny (model X.prog X.w) X.A.in1 (call (.ref f) us) (EP X pins σ Q) X.xe s := run_fnA F hr.in1 (fun e => e.in1) hb hx I r h
theorem call_lenO (F : FnOk X.prog X.w X.K X.mg X.base CX k f fd ps sp) (hr : Room (k + 1) X.A) (hb : Binds X.K fd ps []) (hx : Passes CX X E) (hs : PySem.W.findIn X.K (.ref C) "__len__" = some (some (.ref f))) (hf : PySem.W.isFn X.K (.ref f) = true) : CallR X (.builtin "len") (rLenO C sp E) := by
  intro pins s σ H xs us Q I r h
  obtain ⟨a, dx, fs, rfl, ha, q⟩ := h
  obtain ⟨u, rfl, ru⟩ := vals1 r
  obtain rfl : u = Value.ref a := ru
  obtain ⟨o, od, J⟩ := ins_at I ha
  obtain ⟨m, hF⟩ := I.fr
  refine PySem.W.len_K hF I.ok.mod.kin J hs hf (thn (run_fn1 (us := [.ref a]) (vs := [.ref a]) F hr hb hx I (.cons rfl .nil) q) fun v s1 z => ?_)
  obtain ⟨w', H1, I1, rw1, n, rfl, h0, h1, q1⟩ := z
  obtain ⟨t, rfl⟩ := rw1
  exact ⟨⟨h0, h1⟩, .int n, H1, I1.tok _, ⟨_, rfl⟩, q1⟩
/-- a != b, both instances of the class, whose __eq__ is its own -/
def rNeO (C : Addr) (sp : Sp) (E : XK) : R2 := fun x y H Q => ∃ (a b dx dy : Addr) (fs gs : List (Str × V)), x = .ref a ∧ y = .ref b ∧ H a = some (.ins C dx fs) ∧ H b = some (.ins C dy gs) ∧ sp [.ref a, .ref b] H (fun v H' => ∃ b, v = .bl b ∧ Q (.bl (!b)) H') E
theorem op_neO (F : FnOk X.prog X.w X.K X.mg X.base CX k f fd ps sp) (hr : Room (k + 1) X.A) (hb : Binds X.K fd ps []) (hx : Passes CX X E) (hm : PySem.W.mroIn X.K C (.type "object") = some true) (he : PySem.W.findIn X.K (.ref C) "__ne__" = some (some (.builtin "object.__ne__")))
    (hs : PySem.W.findIn X.K (.ref C) "__eq__" = some (some (.ref f))) (hf : PySem.W.isFn X.K (.ref f) = true) : OpR X (compareOp .NotEq) (rNeO C sp E) := by
  intro pins s σ H x y v u Q I rx ry h
  obtain ⟨a, b, dx, dy, fs, gs, rfl, rfl, ha, hb2, q⟩ := h
  obtain rfl : v = Value.ref a := rx
  obtain rfl : u = Value.ref b := ry
  obtain ⟨o, od, J⟩ := ins_at I ha
  obtain ⟨o2, od2, J2⟩ := ins_at I hb2
  obtain ⟨m, hF⟩ := I.fr
  show wpAny (model X.prog X.w) X.A (richCompare .NotEq (.ref a) (.ref b)) (EP X pins σ Q) X.xe s
  have hu := hr.units
  refine ne_own (tb := .ref C) (by omega) hF I.ok.mod.kin J J2.type (by simp [PySem.W.notFirst]) hm he hs hf (thn (run_fn1 (us := [.ref a, .ref b]) (vs := [.ref a, .ref b]) F hr hb hx I (.cons rfl (.cons rfl .nil)) q) fun r s1 z => ?_)
  obtain ⟨w, H1, I1, rw1, c, rfl, q1⟩ := z
  cases rw1
  exact ⟨c, rfl, .bl (!c), H1, I1, rfl, q1⟩
/-- the truth of an instance with an own __len__ and no __bool__ -/
def rTruO (C : Addr) (sp : Sp) (E : XK) : V → Hp → (Bool → Hp → Prop) → Prop := fun x H Q => ∃ (a dx : Addr) (fs : List (Str × V)), x = .ref a ∧ H a = some (.ins C dx fs) ∧ sp [.ref a] H (fun v H' => ∃ n : Int, v = .int n ∧ 0 ≤ n ∧ n < 2 ^ 63 ∧ Q (n != 0) H') E
theorem tru_own {A : Around} {pins : List (Addr × Obj)} {σ : L2.St} {H : Hp} {s : Shared} {R : Bool → Shared → Prop} {a dx : Addr} {fs : List (Str × V)} (I : Inv X pins σ H s) (ha : H a = some (.ins C dx fs))
    (hn : PySem.W.findIn X.K (.ref C) "__bool__" = some none) (hs : PySem.W.findIn X.K (.ref C) "__len__" = some (some (.ref f))) (hf : PySem.W.isFn X.K (.ref f) = true)
    (h : wpAny (model X.prog X.w) A.in1 (call (.ref f) [.ref a]) (fun v s' => ∃ n t, v = .int n t ∧ 0 ≤ n ∧ n < 2 ^ 63 ∧ R (n != 0) { s' with toks := s'.toks + 1 }) X.xe s) : wpAny (model X.prog X.w) A (truthy (.ref a)) R X.xe s := by
  obtain ⟨o, od, J⟩ := ins_at I ha
  obtain ⟨m, hF⟩ := I.fr
  have XI := I.kIn
  unfold truthy
  refine wpAny_bind (m := callSpecial? (.ref a) (Str.ofString "__bool__")) (wpAny_bind (wpAny_bind (J.type.here ((PySem.W.looks_findIn XI hn).here (wpAny_pure ?_)))))
  refine wpAny_bind (wpAny_bind (J.type.here ((PySem.W.looks_findIn XI hs).here ?_)))
  show wpAny _ _ (if (some (Value.ref f)).isNone = true then _ else _) _ _ _
  rw [if_neg (by simp)]
  refine wpAny_bind (m := runValue (.builtin "len" ⟨[.ref a], []⟩)) (wpAny_runValue (codeAny_builtin PySem.entry_len ?_))
  unfold Builtin.«len»
  refine wpAny_bind (m := oneArg "len" _) (wpAny_pure ?_)
  refine wpAny_bind (m := callSpecial? (.ref a) (Str.ofString "__len__")) (PySem.W.special_fn XI J hs (beq_iff_eq.mp hf) (wpAny_mono h (fun r s' hr => ?_) fun _ _ y => y))
  obtain ⟨n, t, rfl, h0, h1, hq⟩ := hr
  refine wpAny_bind (wpAny_holding (wpAny_pure ?_))
  refine wpAny_bind (wpAny_letGo ?_)
  show wpAny _ _ (if n < 0 then _ else _) _ _ _
  rw [if_neg (by omega)]
  show wpAny _ _ (if n ≥ 2 ^ 63 then _ else _) _ _ _
  rw [if_neg (by omega)]
  exact wpAny_bind (wpAny_mkInt (wpAny_pure (wpAny_pure hq)))
theorem tru_lenO (F : FnOk X.prog X.w X.K X.mg X.base CX k f fd ps sp) (hr : Room (k + 1) X.A) (hb : Binds X.K fd ps []) (hx : Passes CX X E) (hn : PySem.W.findIn X.K (.ref C) "__bool__" = some none) (hs : PySem.W.findIn X.K (.ref C) "__len__" = some (some (.ref f)))
    (hf : PySem.W.isFn X.K (.ref f) = true) : TruR X (rTruO C sp E) := by
  intro pins s σ H x v Q I rx h
  obtain ⟨a, dx, fs, rfl, ha, q⟩ := h
  obtain rfl : v = Value.ref a := rx
  refine tru_own I ha hn hs hf (thn (run_fn1 (us := [.ref a]) (vs := [.ref a]) F hr hb hx I (.cons rfl .nil) q) fun r s1 z => ?_)
  obtain ⟨w', H1, I1, rw1, n, rfl, h0, h1, q1⟩ := z
  obtain ⟨t, rfl⟩ := rw1
  exact ⟨n, t, rfl, h0, h1, H1, I1.tok _, q1⟩
end
section
variable {prog : Program} {w : World} {A : Around} {E : Value → Shared → Prop} {s : Shared} {a : Addr}
theorem bool_own {R : Value → Shared → Prop} (h : ∀ A', A' = A.in1.in1 → wpAny (model prog w) A' (truthy (.ref a)) (fun b s' => R (.bool b) s') E s) : wpAny (model prog w) A (call (.type "bool") [.ref a]) R E s := by
  refine callType_codes (Q₁ := fun obj s₁ => s₁.TypeIs obj "bool" ∧ R obj s₁) PySem.F.called_bool (PySem.F.typeCall_bool_1 _) PySem.F.entry_object_init ?_ fun obj s₁ h₁ => ?_
  · refine codeAny_of_tree ?_
    show wpAny _ A.in1.in1 (do checkBuiltinCall "bool.__new__" ⟨[.type "bool", .ref a], []⟩; again (.builtin "bool.__new__" ⟨[.type "bool", .ref a], []⟩)) _ _ s
    refine wpAny_bind (wpAny_of_eq (PySem.F.newCall_bool_1 _) (wpAny_pure ⟨plainId_quiet (by decide +kernel) _, codeAny_builtin PySem.F.entry_bool_new ?_⟩))
    rw [Around.under_plainId (by decide +kernel) _]
    have f1 := PySem.F.conv_sub_bool
    obtain ⟨hp, g, d, tk, os⟩ := s
    repeat (any_goals (first | assumption | (with_reducible refine wpAny_mono (h _ ?_) (fun b s' z => ?_) fun _ _ z => z) | wp_step))
    · rfl
    · exact ⟨rfl, z⟩
  · exact ⟨h₁.1, PySem.F.args_object_init_2 obj _, object_init_meets PySem.F.called_bool.init.lookup PySem.F.called_bool.made (by decide) prog w A.in1 _ s₁ ⟨h₁.1, rfl, h₁.2⟩⟩
end
section
variable {X : Cx} {CX : CXT} {k : Nat} {C f : Addr} {fd : FuncData} {ps : List Str} {sp : Sp} {E : XK}
/-- bool(x) of an instance with an own __len__ -/
def rBoolO (C : Addr) (sp : Sp) (E : XK) : List V → Hp → VK → Prop := fun xs H Q => ∃ (a dx : Addr) (fs : List (Str × V)), xs = [.ref a] ∧ H a = some (.ins C dx fs) ∧ sp [.ref a] H (fun v H' => ∃ n : Int, v = .int n ∧ 0 ≤ n ∧ n < 2 ^ 63 ∧ Q (.bl (n != 0)) H') E
theorem call_boolO (F : FnOk X.prog X.w X.K X.mg X.base CX k f fd ps sp) (hr : Room (k + 3) X.A) (hb : Binds X.K fd ps []) (hx : Passes CX X E) (hn : PySem.W.findIn X.K (.ref C) "__bool__" = some none) (hs : PySem.W.findIn X.K (.ref C) "__len__" = some (some (.ref f)))
    (hf : PySem.W.isFn X.K (.ref f) = true) : CallR X (.type "bool") (rBoolO C sp E) := by
  intro pins s σ H xs us Q I r h
  obtain ⟨a, dx, fs, rfl, ha, q⟩ := h
  obtain ⟨u, rfl, ru⟩ := vals1 r
  obtain rfl : u = Value.ref a := ru
  refine bool_own fun A' e => ?_
  subst e
  refine tru_own I ha hn hs hf (thn (run_fnA (us := [.ref a]) (vs := [.ref a]) F hr.in1.in1.in1 (fun e => e.in1.in1.in1) hb hx I (.cons rfl .nil) q) fun r s1 z => ?_)
  obtain ⟨w', H1, I1, rw1, n, rfl, h0, h1, q1⟩ := z
  obtain ⟨t, rfl⟩ := rw1
  exact ⟨n, t, rfl, h0, h1, .bl (n != 0), H1, I1.tok _, rfl, q1⟩
/-- not x, by a truth that is told -/
theorem pe_notT {r : V → Hp → (Bool → Hp → Prop) → Prop} {a : Expr} {ta : TE} {pos : Pos} (hc : TruR X r) (ha : PE X a ta) : PE X (.UnaryOp .Not a pos) (fun σ H Q => ta σ H fun x H1 => r x H1 fun b H2 => Q (.bl (!b)) H2) := by
  refine ⟨fun pins s σ H Q I h => ?_⟩
  refine UnaryOp_ (thn (ha.run pins s σ H _ I h) fun v s1 ⟨x, H1, I1, r1, q1⟩ => ?_)
  exact not_of (thn (hc pins s1 σ H1 x v _ I1 r1 q1) fun b s2 ⟨H2, I2, q2⟩ => ⟨.bl (!b), H2, I2, rfl, q2⟩)
end
/-! ### iteration over an instance whose own __iter__ hands on the iterator of a tuple -/
/-- at it an iterator over the tuple at l, at its begin -/
def ItTO (l it : Addr) : HO := .ext fun h => h.IsTupleIter it l 0
section
variable {X : Cx}
/-- iter(t), t a tuple -/
def rIterT (K : PySem.W.Frag) (n : Nat) : List V → Hp → VK → Prop := fun xs H Q => ∃ (l : Addr) (zs : List V), xs = [.ref l] ∧ SqT K H l zs ∧ ∀ it, H it = Option.none → n ≤ it → Q (.ref it) (upd H it (ItTO l it))
theorem call_iterT : CallR X (.builtin "iter") (rIterT X.K X.s_0.heap.objs.size) := by
  intro pins s σ H xs us Q I r h
  obtain ⟨l, zs, rfl, hq, q⟩ := h
  obtain rfl := Vals.ref1 r
  obtain ⟨its, rv, pl, hz⟩ := I.tuple hq
  refine Calls.call_function_entry (by decide +kernel) (by decide +kernel) PySem.W.kdk_entry_iter (PySem.W.kdk_args_iter _) ?_
  unfold Builtin.«iter»
  refine wpAny_bind (m := someArgs "iter" 1 2 _) (wpAny_of_eq (a := [Value.ref l]) (by first | rfl | kernel_rfl!) ?_)
  show wpAny _ _ (pyIter (.ref l) >>= _) _ _ _
  refine wpAny_bind (wpAny_pyIter_tuple pl ?_)
  have st : (s.heap.push { cls := .type "tuple_iterator", data := .fields #[.ref l, .int 0 0] }).IsTupleIter s.heap.objs.size l 0 := ⟨_, Heap.get?_push_size _ rfl, rfl, rfl⟩
  exact wpAny_pure ⟨_, rfl, .ref s.heap.objs.size, _, I.laid (t' := s.toks) (o := ItTO l s.heap.objs.size) (fun b u e => Heap.get?_push_of_some _ e) (Nat.le_refl _) ⟨st, ⟨_, Heap.get?_push_size _ rfl⟩, fun h1 h2 q k => q.at fun o e => k o e⟩, rfl, q _ (I.hok.fresh (Nat.le_refl _)) I.sz⟩
/-- a def that is told of the room's size at its call -/
def FnN (P : Program) (w : World) (K : PySem.W.Frag) (mg : Str → Option Value) (base : Heap) (CX : CXT) (k : Nat) (f : Addr) (sp : Nat → Sp) : Prop :=
  ∀ (A : Around) (outer : List Env) (s : Shared) (H : Hp) (us : List Value) (vs : List V) (Q : VK) (E : XK), Room k A → Env0 P w K mg base A outer s H → Vals vs us → sp s.heap.objs.size vs H Q E →
    codeAny (model P w) A (.call (.ref f) { pos := us, kw := [] }) (CR CX outer P w H s Q E) s
theorem FnN.mk0 {P : Program} {w : World} {K : PySem.W.Frag} {mg : Str → Option Value} {base : Heap} {k : Nat} {x qual : Str} {st : Stmt} {f : Addr} {fd : FuncData} {N ps : List Str} {sp : Nat → Sp}
    (F : Fun K x qual st f fd) (S : FnScope N ps (defScope st)) (B : Binds K fd ps []) (len : ∀ n vs H Q E, sp n vs H Q E → vs.length = ps.length)
    (go : ∀ (cdv : Value) (A : Around) (outer : List Env) (s : Shared) (H : Hp) (vs : List V) (Q : VK) (E : XK), Room k (A.deeper (envOfC qual (defScope st) s.heap.objs.size f cdv)) → sp s.heap.objs.size vs H Q E →
      ∃ t, PSs (cxOf CX0 P w K mg base N qual (defScope st) f cdv A outer s H E).nox (defBody st) t ∧ t { nx := fun _ H1 => Q .non H1, rt := Q } (start N vs) H) : FnN P w K mg base CX0 (k + 1) f sp := by
  obtain ⟨oc, od, kV, doc, pm, an, cdv, ct, osl, e, lk, hcd⟩ := F.ex
  subst e
  intro A outer s H us vs Q E hr e0 rv hs
  have hl := len _ _ _ _ _ hs
  have hu : (us ++ []).length = ps.length := by rw [List.append_nil, ← hl]; exact rv.length.symm
  have b := B s us (e0.mod.kin.keeps fun b o z => (e0.bs b o z).1) hu
  rw [List.append_nil] at b
  exact LamX.run_ofS lk hcd S hr e0 b rv hl fun hr1 => by
    obtain ⟨t, ht, q⟩ := go cdv A outer s H vs Q E hr1 hs
    exact ⟨t, ht.nox, q⟩
variable {CX : CXT} {k : Nat} {C f : Addr} {sp : Nat → Sp} {E : XK} {tg iter : Expr} {te : TE}
def iOwnT (K : PySem.W.Frag) (C : Addr) (sp : Nat → Sp) (E : XK) (te : TE) : TI := fun σ H R => te σ H fun x H1 => ∃ (a dx : Addr) (fs : List (Str × V)), x = .ref a ∧ H1 a = some (.ins C dx fs) ∧
  ∀ n, sp n [.ref a] H1 (fun v H2 => ∃ it l, v = .ref it ∧ n ≤ it ∧ H2 it = some (ItTO l it) ∧ R (Itt K l) (ItX.dropH H2 it)) E
theorem pi_ownT (he : PE X iter te) (F : FnN X.prog X.w X.K X.mg X.base CX k f sp) (hr : Room k X.A) (hx : Passes CX X E) (hs : PySem.W.findIn X.K (.ref C) "__iter__" = some (some (.ref f))) (hf : PySem.W.isFn X.K (.ref f) = true) : PI X tg iter (iOwnT X.K C sp E te) := by
  refine ⟨fun pins s σ H R I h => ?_⟩
  refine thn (he.run pins s σ H _ I h) fun u s1 ⟨x, H1, I1, rx, a, dx, fs, ex, ha, q⟩ => ?_
  subst ex
  obtain rfl : u = Value.ref a := rx
  obtain ⟨o, od, J⟩ := ins_at I1 ha
  obtain ⟨m, hF⟩ := I1.fr
  refine PySem.W.owit_iter hF I1.ok.mod.kin J hs hf (wpAny_call (codeAny_mono (F X.A X.stack s1 H1 [.ref a] [.ref a] _ E hr I1.env0 (.cons rfl .nil) (q _)) fun r s' hq => ?_))
  cases r with
  | error e => exact hx pins σ H1 s1 e s' I1 hq
  | ok fl =>
    cases fl with
    | next => exact False.elim hq
    | brk => exact False.elim hq
    | cont => exact False.elim hq
    | ret u =>
      obtain ⟨v, H2, I2, rv, it, l, ev, hn, hi, qR⟩ := I1.after hq
      subst ev
      obtain rfl : u = Value.ref it := rv
      have st : s'.heap.IsTupleIter it l 0 := (I2.hok it _ hi).1
      show PySem.W.OwitIt _ _ _ _ _ _
      unfold PySem.W.OwitIt specialOf
      refine wpAny_bind (wpAny_typeOf st.typeIs ?_)
      refine wpAny_of_eq PySem.F.slot_tuple_iterator_next.lookup ?_
      have hi' := hi
      unfold ItTO at hi'
      refine ⟨it, [it], _, _, ItX.dropH H2 it, rfl, ItX.inv_drop I2 hi', turn_tuple l it, st, fun b hb => ?_, qR⟩
      have e : b = it := by simpa using hb
      rw [e]
      exact ItX.inv_fp I2 hi (Nat.le_trans I1.sz hn)
theorem sqT_drop {K : PySem.W.Frag} {H : Hp} {a it : Addr} {xs : List V} (h : SqT K H a xs) (n : it ≠ a) : SqT K (ItX.dropH H it) a xs := by
  have e : ItX.dropH H it a = H a := ItX.dropH_ne (Ne.symm n)
  unfold SqT Rd at h ⊢
  simp only [e]
  exact h
end

/-- what the class says of such a sign with an int behind it -/
structure OwnBin (K : PySem.W.Frag) (C f : Addr) (op : Operator) : Prop where
  hc : PySem.W.selfFirst K C = true
  hs : PySem.W.findIn K (.ref C) (PySem.dunder op.info.2) = some (some (.ref f))
  hf : PySem.W.isFn K (.ref f) = true
  hr : PySem.W.findIn K (.ref C) (PySem.dunderR op.info.2) = some Option.none
  h1 : ∃ fo, PySem.W.findIn K (.type "int") (PySem.dunder op.info.2) = some fo
  h2 : ∃ ro, PySem.W.findIn K (.type "int") (PySem.dunderR op.info.2) = some ro
  hsub : PySem.W.subIn K (.type "int") (.ref C) = some false
/-- no class along the line has the name -/
def mroNone (K : PySem.W.Frag) (C : Addr) (nm : Str) : Prop := ∃ cd, PySem.W.clsIn K C = some cd ∧ ∀ c ∈ cd.mro, PySem.W.findIn K c nm = some Option.none

/-! ### a + i, a - i, a * i, a // i, -a of an instance whose method is its own -/
section
variable {X : Cx} {CX : CXT} {k : Nat} {C f : Addr} {fd : FuncData} {ps : List Str} {sp : Sp} {E : XK}
def rBinO (C : Addr) (sp : Sp) (E : XK) : R2 := fun x y H Q => ∃ (a dx : Addr) (fs : List (Str × V)) (i : Int), x = .ref a ∧ y = .int i ∧ H a = some (.ins C dx fs) ∧ sp [.ref a, .int i] H (fun v H' => ∃ b, v = .ref b ∧ Q (.ref b) H') E
theorem op_binO {op : Operator} (O : OwnBin X.K C f op) (F : FnOk X.prog X.w X.K X.mg X.base CX k f fd ps sp) (hr : Room k X.A) (hb : Binds X.K fd ps []) (hx : Passes CX X E) : OpR X (binaryOp op) (rBinO C sp E) := by
  intro pins s σ H x y v u Q I rx ry h
  obtain ⟨a, dx, fs, i, rfl, rfl, ha, q⟩ := h
  obtain rfl : v = Value.ref a := rx
  obtain ⟨t, rfl⟩ := ry
  obtain ⟨o, od, J⟩ := ins_at I ha
  obtain ⟨m, hF⟩ := I.fr
  obtain ⟨fo, h1⟩ := O.h1
  obtain ⟨ro, h2⟩ := O.h2
  refine PySem.W.ksp_binT (T := "int") hF I.ok.mod.kin J rfl O.hc O.hs O.hf O.hr (.inl rfl) h1 h2 O.hsub (thn (run_fn (us := [.ref a, .int i t]) (vs := [.ref a, .int i]) F hr hb .nil hx I (.cons rfl (.cons ⟨t, rfl⟩ .nil)) q) fun r s1 z => ?_)
  obtain ⟨w, H1, I1, rw1, b, rfl, q1⟩ := z
  cases rw1
  exact ⟨.ref b, H1, I1, rfl, q1⟩
def rNegO (C : Addr) (sp : Sp) (E : XK) : V → Hp → VK → Prop := fun x H Q => ∃ (a dx : Addr) (fs : List (Str × V)), x = .ref a ∧ H a = some (.ins C dx fs) ∧ sp [.ref a] H Q E
theorem un_negO (F : FnOk X.prog X.w X.K X.mg X.base CX k f fd ps sp) (hr : Room k X.A) (hb : Binds X.K fd ps []) (hx : Passes CX X E) (hs : PySem.W.findIn X.K (.ref C) "__neg__" = some (some (.ref f))) (hf : PySem.W.isFn X.K (.ref f) = true) : UnR X (unaryOp .USub) (rNegO C sp E) := by
  intro pins s σ H x v Q I rx h
  obtain ⟨a, dx, fs, rfl, ha, q⟩ := h
  obtain rfl : v = Value.ref a := rx
  obtain ⟨o, od, J⟩ := ins_at I ha
  obtain ⟨m, hF⟩ := I.fr
  exact PySem.W.ksp_neg hF I.ok.mod.kin J hs hf (run_fn (us := [.ref a]) (vs := [.ref a]) F hr hb .nil hx I (.cons rfl .nil) q)
/-- C(e, *es), C an own class -/
theorem pe_mkRS {e : Expr} {es : List Expr} {x : Str} {q pos : Pos} {t : TA} {sp : Sp} (M : Mk X.K C f) (F : FnR X.prog X.w X.K X.mg X.base CX k f sp) (hr : Room (k + 1) X.A) (hx : Passes CX X E) (hg : Gl X x) (hm : X.mg x = some (.ref C)) (ha : PA X (e :: es) t)
    (hdb : (x == ("__debug__" : Str)) = false := by decide) (he : starEach (e :: es) X.env = (false, eval e X.env) :: starEach es X.env := by rfl) (hst : (backTo pos (starEach es X.env)).any (·.1) = true := by rfl) : PE X (.Call (.Name x q) (e :: es) [] pos) (tMkR C sp E t) := by
  refine ⟨fun pins s σ H Q I h => wpAny_Call_Name_kw (ld_glob I hg hm ?_ hdb)⟩
  refine PySem.W.callWith_S2 (h₀ := X.base) I.ok.mod.kin M.kp (thn (ha.run pos pins s σ H _ I h) fun us s1 ⟨vs, H1, I1, r, q⟩ => ⟨I1.kIn, ?_⟩) he hst
  exact run_mkR M F hr hx I1 r q
end
/-- what is not reached -/
def tNo : TE := fun _ _ _ => False
theorem pe_no {X : Cx} {e : Expr} : PE X e tNo := ⟨fun _ _ _ _ _ _ h => h.elim⟩

/-! ### x op= i, x an instance without a method of its own for it -/
section
variable {prog : Program} {w : World} {M : Model} {A : Around} {E : Value → Shared → Prop} {s : Shared} {K : PySem.W.Frag} {x C L f : Addr} {h₀ : Heap} {m : Str → Option Value} {ox : Obj} {od : Option Obj} {nm T : String}
theorem fillsI0 {h : Heap} {add : Bool} (X : K.In h) (hm : mroNone K C (PySem.dunderI nm)) : PySem.W.Looks M h (fillsInplaceSlot (.ref C) nm add) false := by
  obtain ⟨cd, hc, hn⟩ := hm
  intro A Q E s k q
  have Lm : PySem.W.Looks M h (mroOf (.ref C)) cd.mro := (PySem.W.looks_clsIn X hc).andThen (f := fun cd => pure cd.mro) .now
  have Lm' := Lm.keeps k
  obtain ⟨hh, g, d, tt, os⟩ := s
  have X' : K.In hh := X.keeps k
  unfold fillsInplaceSlot
  refine wpAny_bind (Lm'.at ?_)
  clear Lm Lm'
  generalize cd.mro = l at hn
  induction l with
  | nil => exact wpAny_pure q
  | cons c r ih =>
    rw [List.anyM_cons]
    refine wpAny_bind (wpAny_bind ((PySem.W.looks_findIn X' (hn c (List.mem_cons_self ..))).at (wpAny_pure ?_)))
    exact ih fun c' hc' => hn c' (List.mem_cons_of_mem _ hc')
theorem bin1_own {nm' : String} {i : Int} {t : Tok} {fo ro : Option Value} {Q : Value → Shared → Prop} (F : PyProof.Rows.Fr h₀ L s.heap m) (X₀ : K.In h₀) (I : PySem.W.InstAt s.heap x ox C od) (hc : PySem.W.selfFirst K C = true)
    (hs : PySem.W.findIn K (.ref C) (PySem.dunder nm') = some (some (.ref f))) (hf : PySem.W.isFn K (.ref f) = true) (hr : PySem.W.findIn K (.ref C) (PySem.dunderR nm') = some Option.none)
    (h1 : PySem.W.findIn K (.type "int") (PySem.dunder nm') = some fo) (h2 : PySem.W.findIn K (.type "int") (PySem.dunderR nm') = some ro) (hsub : PySem.W.subIn K (.type "int") (.ref C) = some false)
    (h : wpAny (model prog w) A (call (.ref f) [.ref x, .int i t]) (PySem.W.CmpBack Q) E s) : wpAny (model prog w) A (binaryOp1 nm' (.ref x) (.int i t)) (fun r s' => ∃ v, r = some v ∧ Q v s') E s := by
  have X := X₀.keeps F.keep
  obtain ⟨cd, rest, hcd, hmr⟩ := PySem.W.ksp_first hc
  have one := PySem.W.ksp_try X I hs hf h
  obtain ⟨hh, g, d, tt, os⟩ := s
  have L1 : PySem.W.Looks (model prog w) hh (typeOf (.ref x)) (.ref C) := I.type
  have L2 : PySem.W.Looks (model prog w) hh (typeOf (.int i t)) (.type "int") := PySem.W.Looks.of_pure rfl
  have L3 : PySem.W.Looks (model prog w) hh (fillsNumberSlot (.ref C) nm') true := PySem.W.fills_K X hcd hmr hs
  have L4 : PySem.W.Looks (model prog w) hh (fillsNumberSlot (.type "int") nm') ((fo.isSome && !isSeqSlot fo) || (ro.isSome && !isSeqSlot ro)) := PySem.W.ksp_fillsT X h1 h2
  have L5 : PySem.W.Looks (model prog w) hh (isSubtype (.type "int") (.ref C)) false := PySem.W.looks_subIn X hsub
  have L6 : PySem.W.Looks (model prog w) hh (numberSlotInPython (.ref C) nm') true := PySem.W.ksp_inPy X hs hr (.inl rfl)
  have L7 : PySem.W.Looks (model prog w) hh (numberSlotInPython (.type "int") nm') false := PySem.W.Looks.of_pure rfl
  have L8 : PySem.W.Looks (model prog w) hh (typeLookup (.type "int") (PySem.dunderR nm')) ro := PySem.W.looks_findIn X h2
  generalize ((fo.isSome && !isSeqSlot fo) || (ro.isSome && !isSeqSlot ro)) = right at L4
  have hne : (Value.ref C == Value.type "int") = false := Bool.eq_false_iff.mpr fun q => by cases beq_iff_eq.mp q
  unfold binaryOp1
  refine wpAny_bind (L1.at (wpAny_bind (L2.at (wpAny_bind (L3.at ?_)))))
  simp only [hne, Bool.false_eq_true, if_false]
  cases right with
  | false =>
    ksp_lk
    refine wpAny_mono one (fun r s' hr' => ?_) fun _ _ e => e
    obtain ⟨v, rfl, hq⟩ := hr'
    ksp_lk
    exact ⟨v, rfl, hq⟩
  | true =>
    ksp_lk
    refine wpAny_mono one (fun r s' hr' => ?_) fun _ _ e => e
    obtain ⟨v, rfl, hq⟩ := hr'
    ksp_lk
    exact ⟨v, rfl, hq⟩
theorem inplace_own {op : Operator} {i : Int} {t : Tok} {fo ro : Option Value} {Q : Value → Shared → Prop} (F : PyProof.Rows.Fr h₀ L s.heap m) (X₀ : K.In h₀) (I : PySem.W.InstAt s.heap x ox C od) (hm : mroNone K C (PySem.dunderI op.info.2)) (hc : PySem.W.selfFirst K C = true)
    (hs : PySem.W.findIn K (.ref C) (PySem.dunder op.info.2) = some (some (.ref f))) (hf : PySem.W.isFn K (.ref f) = true) (hr : PySem.W.findIn K (.ref C) (PySem.dunderR op.info.2) = some Option.none)
    (h1 : PySem.W.findIn K (.type "int") (PySem.dunder op.info.2) = some fo) (h2 : PySem.W.findIn K (.type "int") (PySem.dunderR op.info.2) = some ro) (hsub : PySem.W.subIn K (.type "int") (.ref C) = some false)
    (h : wpAny (model prog w) A (call (.ref f) [.ref x, .int i t]) (PySem.W.CmpBack Q) E s) : wpAny (model prog w) A (inplaceOp op (.ref x) (.int i t)) Q E s := by
  have one := bin1_own F X₀ I hc hs hf hr h1 h2 hsub h
  have L0 : PySem.W.Looks (model prog w) s.heap (fillsInplaceSlot (.ref C) op.info.2 (op == .Add)) false := fillsI0 (X₀.keeps F.keep) hm
  unfold inplaceOp
  refine wpAny_holding ?_
  refine wpAny_bind (I.type.here ?_)
  refine wpAny_bind (L0.here ?_)
  rw [if_neg Bool.false_ne_true]
  refine wpAny_bind (m := binaryOp1 op.info.2 (.ref x) (.int i t)) (wpAny_mono one (fun r s' hr' => ?_) fun _ _ e => e)
  obtain ⟨v, rfl, hq⟩ := hr'
  exact wpAny_pure hq
end
section
variable {X : Cx} {CX : CXT} {k : Nat} {C f : Addr} {fd : FuncData} {ps : List Str} {sp : Sp} {E : XK}
theorem ip_own {op : Operator} (O : OwnBin X.K C f op) (hm : mroNone X.K C (PySem.dunderI op.info.2)) (F : FnOk X.prog X.w X.K X.mg X.base CX k f fd ps sp) (hr : Room k X.A) (hb : Binds X.K fd ps []) (hx : Passes CX X E) : PIp X op (rBinO C sp E) := by
  intro pins s σ H x y v u Q I rx ry h
  obtain ⟨a, dx, fs, i, rfl, rfl, ha, q⟩ := h
  obtain rfl : v = Value.ref a := rx
  obtain ⟨t, rfl⟩ := ry
  obtain ⟨o, od, J⟩ := ins_at I ha
  obtain ⟨m, hF⟩ := I.fr
  obtain ⟨fo, h1⟩ := O.h1
  obtain ⟨ro, h2⟩ := O.h2
  refine inplace_own hF I.ok.mod.kin J hm O.hc O.hs O.hf O.hr h1 h2 O.hsub (thn (run_fn (us := [.ref a, .int i t]) (vs := [.ref a, .int i]) F hr hb .nil hx I (.cons rfl (.cons ⟨t, rfl⟩ .nil)) q) fun r s1 z => ?_)
  obtain ⟨w, H1, I1, rw1, b, rfl, q1⟩ := z
  cases rw1
  exact ⟨.ref b, H1, I1, rfl, q1⟩
end

/-! ### str of an instance with an own __str__; == with what is no instance -/
section
variable {prog : Program} {w : World} {A : Around} {E : Value → Shared → Prop} {s : Shared} {a : Addr}
theorem str_own {R : Value → Shared → Prop} (h : ∀ A', A' = A.in1.in1 → wpAny (model prog w) A' (Builtin.Str.strOf (.ref a)) (fun b s' => (∃ x t, b = .str x t) ∧ R b s') E s) : wpAny (model prog w) A (call (.type "str") [.ref a]) R E s := by
  refine callType_codes (Q₁ := fun obj s₁ => s₁.TypeIs obj "str" ∧ R obj s₁) PySem.F.called_str (PySem.F.typeCall_str_1 _) PySem.F.entry_object_init ?_ fun obj s₁ h₁ => ?_
  · refine codeAny_of_tree ?_
    show wpAny _ A.in1.in1 (do checkBuiltinCall "str.__new__" ⟨[.type "str", .ref a], []⟩; again (.builtin "str.__new__" ⟨[.type "str", .ref a], []⟩)) _ _ s
    refine wpAny_bind (wpAny_of_eq (PySem.F.newCall_str_1 _) (wpAny_pure ⟨plainId_quiet (by decide +kernel) _, codeAny_builtin PySem.F.entry_str_new ?_⟩))
    rw [Around.under_plainId (by decide +kernel) _, str_new_tree]
    refine wpAny_bind (wpAny_pure ?_)
    refine wpAny_bind (wpAny_of_eq isSubtype_str_str ?_)
    refine wpAny_bind (wpAny_mono (h _ rfl) (fun b s' z => wpAny_pure ?_) fun _ _ e => e)
    obtain ⟨⟨x, t, rfl⟩, z⟩ := z
    exact ⟨typeIs_str _ _ _, z⟩
  · exact ⟨h₁.1, PySem.F.args_object_init_2 obj _, object_init_meets PySem.F.called_str.init.lookup PySem.F.called_str.made (by decide) prog w A.in1 _ s₁ ⟨h₁.1, rfl, h₁.2⟩⟩
theorem strOf_own {K : PySem.W.Frag} {x C f : Addr} {ox : Obj} {od : Option Obj} {Q : Value → Shared → Prop} (hu : A.units < cLine) (X : K.In s.heap) (I : PySem.W.InstAt s.heap x ox C od) (hs : PySem.W.findIn K (.ref C) "__str__" = some (some (.ref f))) (hf : PySem.W.isFn K (.ref f) = true)
    (h : wpAny (model prog w) A (call (.ref f) [.ref x]) (fun r s' => (∃ y t, r = .str y t) ∧ Q r s') E s) : wpAny (model prog w) A (Builtin.Str.strOf (.ref x)) Q E s := by
  unfold Builtin.Str.strOf
  repeat (first
    | with_reducible refine wpAny_cRoomFor hu ?_
    | (refine wpAny_bind (m := callSpecial? (.ref x) (Str.ofString "__str__")) (PySem.W.special_fn X I hs (beq_iff_eq.mp hf) (wpAny_mono h (fun r s' hr => by
        obtain ⟨⟨y, t, rfl⟩, hq⟩ := hr
        repeat (first | exact hq | exact wpAny_pure hq | wp_step)) fun _ _ e => e)))
    | wp_step)
end
section
variable {X : Cx} {CX : CXT} {k : Nat} {C f : Addr} {fd : FuncData} {ps : List Str} {sp : Sp} {E : XK}
def rStrO (C : Addr) (sp : Sp) (E : XK) : List V → Hp → VK → Prop := fun xs H Q => ∃ (a dx : Addr) (fs : List (Str × V)), xs = [.ref a] ∧ H a = some (.ins C dx fs) ∧ sp [.ref a] H (fun v H' => ∃ x, v = .str x ∧ Q (.str x) H') E
theorem call_strO (F : FnOk X.prog X.w X.K X.mg X.base CX k f fd ps sp) (hr : Room (k + 3) X.A) (hb : Binds X.K fd ps []) (hx : Passes CX X E) (hs : PySem.W.findIn X.K (.ref C) "__str__" = some (some (.ref f))) (hf : PySem.W.isFn X.K (.ref f) = true) : CallR X (.type "str") (rStrO C sp E) := by
  intro pins s σ H xs us Q I r h
  obtain ⟨a, dx, fs, rfl, ha, q⟩ := h
  obtain ⟨u, rfl, ru⟩ := vals1 r
  obtain rfl : u = Value.ref a := ru
  obtain ⟨o, od, J⟩ := ins_at I ha
  obtain ⟨m, hF⟩ := I.fr
  refine str_own fun A' e => ?_
  subst e
  refine strOf_own hr.in1.in1.units0 (I.ok.mod.kin.keeps hF.keep) J hs hf (thn (run_fnA (us := [.ref a]) (vs := [.ref a]) F (hr.in1.in1.mono (by omega)) (fun e => e.in1.in1) hb hx I (.cons rfl .nil) q) fun r s1 z => ?_)
  obtain ⟨w', H1, I1, rw1, x, rfl, q1⟩ := z
  obtain ⟨t, rfl⟩ := rw1
  exact ⟨⟨x, t, rfl⟩, ⟨x, t, rfl⟩, .str x, H1, I1, ⟨t, rfl⟩, q1⟩
/-- a == y, a an instance of the class, whose __eq__ is its own, y of a built-in kind -/
def rEqX (K : PySem.W.Frag) (C : Addr) (sp : Sp) (E : XK) : R2 := fun x y H Q => ∃ (a dx : Addr) (fs : List (Str × V)) (t : Value), x = .ref a ∧ H a = some (.ins C dx fs) ∧ TyX K H y t ∧ PySem.W.notFirst K C t = true ∧ sp [.ref a, y] H (fun v H' => ∃ b, v = .bl b ∧ Q (.bl b) H') E
theorem op_eqX (K : PySem.W.Frag) (hK : X.K = K) (F : FnOk X.prog X.w X.K X.mg X.base CX k f fd ps sp) (hr : Room k X.A) (hb : Binds X.K fd ps []) (hx : Passes CX X E) (hs : PySem.W.findIn X.K (.ref C) "__eq__" = some (some (.ref f))) (hf : PySem.W.isFn X.K (.ref f) = true) : OpR X (compareOp .Eq) (rEqX K C sp E) := by
  subst hK
  intro pins s σ H x y v u Q I rx ry h
  obtain ⟨a, dx, fs, t, rfl, ha, ty, nf, q⟩ := h
  obtain rfl : v = Value.ref a := rx
  obtain ⟨o, od, J⟩ := ins_at I ha
  obtain ⟨P, Z, hP, _⟩ := kit_of I ry ty
  obtain ⟨m, hF⟩ := I.fr
  show wpAny (model X.prog X.w) X.A (richCompare .Eq (.ref a) u) (EP X pins σ Q) X.xe s
  refine PySem.W.cmp_K (op := .Eq) (tb := t) hr.units0 hF I.ok.mod.kin J (Z.ty _ _ I.kIn hP) nf hs hf (thn (run_fn (us := [.ref a, u]) (vs := [.ref a, y]) F hr hb .nil hx I (.cons rfl (.cons ry .nil)) q) fun r s1 z => ?_)
  obtain ⟨w, H1, I1, rw1, c, rfl, q1⟩ := z
  cases rw1
  exact ⟨.bl c, H1, I1, rfl, q1⟩
end
/-- f'..' of two parts or more, under a name -/
def tJoin (ts : List TE) : TE := fun σ H Q => tJs ts Str.empty σ H fun out H1 => Q (.str out) H1
theorem pe_joinedT {X : Cx} {v1 v2 : Expr} {rest : List Expr} {ts : List TE} {pos : Pos} (h : PJ X (v1 :: v2 :: rest) ts) : PE X (.JoinedStr (v1 :: v2 :: rest) pos) (tJoin ts) := pe_joined h

/-! ### rules for instances whose class is one of several: methods, str, signs, != -/
section
variable {X : Cx} {CX : CXT} {k : Nat} {g : Addr} {fd : FuncData} {ps : List Str} {sp : Sp} {E : XK} {dvs : List V} {ds : List Value} {o e : Expr} {es : List Expr} {m : Str} {ta : TE} {t tk : TA} {apos pos : Pos}
/-- o.m(e, ..), m the def at g whichever class o is of -/
def tMethW (K : PySem.W.Frag) (m : Str) (g : Addr) (sp : Sp) (dvs : List V) (E : XK) (ta : TE) (t : TA) : TE := fun σ H Q => ta σ H fun x H1 => ∃ a C dx fs, x = .ref a ∧ H1 a = some (.ins C dx fs) ∧ Cls K C ∧ Meth K C m g ∧ fs.lookup m = Option.none ∧ t σ H1 fun vs H2 => sp (x :: (vs ++ dvs)) H2 Q E
theorem pe_methW {pl : Sem Bool} (K : PySem.W.Frag) (hK : X.K = K) (he : PE X o ta) (F : FnOk X.prog X.w X.K X.mg X.base CX k g fd ps sp) (hr : Room k X.A) (hb : Binds X.K fd ps ds) (hd : Vals dvs ds) (hx : Passes CX X E) (ha : PA X (e :: es) t)
    (hst : starEach (e :: es) X.env = (false, eval e X.env) :: starEach es X.env := by rfl) (hpl : (backTo pos (starEach es X.env)).any (·.1) = false := by rfl)
    (ht : eval (.Call (.Attribute o m apos) (e :: es) [] pos) X.env = (eval o X.env >>= fun ov => standAt apos.atName >>= fun _ => holding [ov] (getMethod ov m pl) >>= fun z => callWith pos z.1 z.2 (backTo pos (starEach (e :: es) X.env)) (backToKw pos (keywordEach [] X.env))) := by rfl) :
    PE X (.Call (.Attribute o m apos) (e :: es) [] pos) (tMethW K m g sp dvs E ta t) := by
  subst hK
  refine ⟨fun pins s σ H Q I h => PySem.W.methodCall_KW (pl := pl) (thn (he.run pins s σ H _ I h) fun u s1 hu => ?_) ht⟩
  obtain ⟨x, H1, I1, rx, a, C, dx, fs, rfl, ea, c, hm, l, q⟩ := hu
  obtain rfl : u = Value.ref a := rx
  refine getmeth_ok I1 ea c hm l (PySem.W.callWith_K (first := [.ref a]) (h₀ := X.base) I.ok.mod.kin hm.kp (thn (ha.run pos pins s1 σ H1 _ I1 q) fun us s2 z => ?_) hst hpl)
  obtain ⟨vs, H2, I2, r, q2⟩ := z
  exact ⟨I2.kIn, run_fn (us := .ref a :: us) (vs := .ref a :: vs) F hr hb hd hx I2 (.cons rfl r) q2⟩
/-- o.m(k = v, ..) -/
def tMethKW (K : PySem.W.Frag) (m : Str) (g : Addr) (sp : Sp) (gV : List V → List V → List V) (E : XK) (ta : TE) (tk : TA) : TE := fun σ H Q => ta σ H fun x H1 => ∃ a C dx fs, x = .ref a ∧ H1 a = some (.ins C dx fs) ∧ Cls K C ∧ Meth K C m g ∧ fs.lookup m = Option.none ∧ tk σ H1 fun zs H2 => sp (gV [x] zs) H2 Q E
theorem pe_methKW {ks : List Str} {kws : List Keyword} {gK : List Value → List Value → List Value} {gV : List V → List V → List V} {pl : Sem Bool} (K : PySem.W.Frag) (hK : X.K = K) (he : PE X o ta) (F : FnOk X.prog X.w X.K X.mg X.base CX k g fd ps sp) (hr : Room k X.A) (hb : KBinds X.K fd ps ks gK gV) (hx : Passes CX X E) (hkw : PK X kws tk)
    (hall : (backToKw pos (keywordEach kws X.env)).all (·.1.isSome) = true := by rfl) (hks : (backToKw pos (keywordEach kws X.env)).filterMap (·.1) = ks := by rfl) (hpl : ((backTo pos (starEach [] X.env)).any (·.1) || (backToKw pos (keywordEach kws X.env)).any (·.1.isNone)) = false := by rfl)
    (ht : eval (.Call (.Attribute o m apos) [] kws pos) X.env = (eval o X.env >>= fun ov => standAt apos.atName >>= fun _ => holding [ov] (getMethod ov m pl) >>= fun z => callWith pos z.1 z.2 (backTo pos (starEach [] X.env)) (backToKw pos (keywordEach kws X.env))) := by rfl) :
    PE X (.Call (.Attribute o m apos) [] kws pos) (tMethKW K m g sp gV E ta tk) := by
  subst hK
  refine ⟨fun pins s σ H Q I h => PySem.W.methodCall_KW (pl := pl) (thn (he.run pins s σ H _ I h) fun u s1 hu => ?_) ht⟩
  obtain ⟨x, H1, I1, rx, a, C, dx, fs, rfl, ea, c, hm, l, q⟩ := hu
  obtain rfl : u = Value.ref a := rx
  refine getmeth_ok I1 ea c hm l (PySem.W.callWith_KW0 (first := [.ref a]) (h₀ := X.base) I.ok.mod.kin hm.kp hall (thn (hkw.run pos pins s1 σ H1 _ I1 q) fun ws s2 z => ?_) hpl)
  obtain ⟨zs, H2, I2, rz, q2⟩ := z
  refine ⟨I2.kIn, ?_⟩
  rw [hks]
  exact run_fnk (us := [.ref a]) (vs := [.ref a]) F hr hb hx I2 (.cons rfl .nil) rz q2
/-- o.m(e, ..), m told of its arguments as they are passed -/
def tMethR (C : Addr) (m : Str) (sp : Sp) (E : XK) (ta : TE) (t : TA) : TE := fun σ H Q => ta σ H fun x H1 => ∃ a dx fs, x = .ref a ∧ H1 a = some (.ins C dx fs) ∧ fs.lookup m = Option.none ∧ t σ H1 fun vs H2 => sp (x :: vs) H2 Q E
theorem pe_methR {C : Addr} {pl : Sem Bool} (he : PE X o ta) (c : Cls X.K C) (hm : Meth X.K C m g) (F : FnR X.prog X.w X.K X.mg X.base CX k g sp) (hr : Room k X.A) (hx : Passes CX X E) (ha : PA X (e :: es) t)
    (hst : starEach (e :: es) X.env = (false, eval e X.env) :: starEach es X.env := by rfl) (hpl : (backTo pos (starEach es X.env)).any (·.1) = false := by rfl)
    (ht : eval (.Call (.Attribute o m apos) (e :: es) [] pos) X.env = (eval o X.env >>= fun ov => standAt apos.atName >>= fun _ => holding [ov] (getMethod ov m pl) >>= fun z => callWith pos z.1 z.2 (backTo pos (starEach (e :: es) X.env)) (backToKw pos (keywordEach [] X.env))) := by rfl) :
    PE X (.Call (.Attribute o m apos) (e :: es) [] pos) (tMethR C m sp E ta t) := by
  refine ⟨fun pins s σ H Q I h => PySem.W.methodCall_KW (pl := pl) (thn (he.run pins s σ H _ I h) fun u s1 hu => ?_) ht⟩
  obtain ⟨x, H1, I1, rx, a, dx, fs, rfl, ea, l, q⟩ := hu
  obtain rfl : u = Value.ref a := rx
  refine getmeth_ok I1 ea c hm l (PySem.W.callWith_K (first := [.ref a]) (h₀ := X.base) I.ok.mod.kin hm.kp (thn (ha.run pos pins s1 σ H1 _ I1 q) fun us s2 z => ?_) hst hpl)
  obtain ⟨vs, H2, I2, r, q2⟩ := z
  exact ⟨I2.kIn, wpAny_call (run_fnR (us := .ref a :: us) (vs := .ref a :: vs) F hr hx I2 (.cons rfl r) q2)⟩
/-- str(x), x an instance whose __str__ is the def at g -/
def rStrW (K : PySem.W.Frag) (g : Addr) (sp : Sp) (E : XK) : List V → Hp → VK → Prop := fun xs H Q => ∃ (a C dx : Addr) (fs : List (Str × V)), xs = [.ref a] ∧ H a = some (.ins C dx fs) ∧ PySem.W.findIn K (.ref C) "__str__" = some (some (.ref g)) ∧ sp [.ref a] H (fun v H' => ∃ x, v = .str x ∧ Q (.str x) H') E
theorem call_strW (F : FnOk X.prog X.w X.K X.mg X.base CX k g fd ps sp) (hr : Room (k + 3) X.A) (hb : Binds X.K fd ps []) (hx : Passes CX X E) (hf : PySem.W.isFn X.K (.ref g) = true) : CallR X (.type "str") (rStrW X.K g sp E) := by
  intro pins s σ H xs us Q I r h
  obtain ⟨a, C, dx, fs, rfl, ha, hs, q⟩ := h
  exact call_strO F hr hb hx hs hf pins s σ H [.ref a] us Q I r ⟨a, dx, fs, rfl, ha, q⟩
end
/-- what the class says of such a sign with what is of the built-in kind T behind it -/
structure OwnBinT (K : PySem.W.Frag) (C f : Addr) (op : Operator) (T : String) : Prop where
  hc : PySem.W.selfFirst K C = true
  hs : PySem.W.findIn K (.ref C) (PySem.dunder op.info.2) = some (some (.ref f))
  hf : PySem.W.isFn K (.ref f) = true
  hr : PySem.W.findIn K (.ref C) (PySem.dunderR op.info.2) = some Option.none
  h1 : ∃ fo, PySem.W.findIn K (.type T) (PySem.dunder op.info.2) = some fo
  h2 : ∃ ro, PySem.W.findIn K (.type T) (PySem.dunderR op.info.2) = some ro
  hsub : PySem.W.subIn K (.type T) (.ref C) = some false
section
variable {prog : Program} {w : World} {A : Around} {E : Value → Shared → Prop} {s : Shared} {K : PySem.W.Frag} {x C L f : Addr} {h₀ : Heap} {m : Str → Option Value} {ox : Obj} {od : Option Obj} {T : String} {b : Value}
theorem bin1_T {nm' : String} {fo ro : Option Value} {Q : Value → Shared → Prop} (F : PyProof.Rows.Fr h₀ L s.heap m) (X₀ : K.In h₀) (I : PySem.W.InstAt s.heap x ox C od) (hT : PySem.W.Looks (model prog w) s.heap (typeOf b) (.type T)) (hc : PySem.W.selfFirst K C = true)
    (hs : PySem.W.findIn K (.ref C) (PySem.dunder nm') = some (some (.ref f))) (hf : PySem.W.isFn K (.ref f) = true) (hr : PySem.W.findIn K (.ref C) (PySem.dunderR nm') = some Option.none)
    (h1 : PySem.W.findIn K (.type T) (PySem.dunder nm') = some fo) (h2 : PySem.W.findIn K (.type T) (PySem.dunderR nm') = some ro) (hsub : PySem.W.subIn K (.type T) (.ref C) = some false)
    (h : wpAny (model prog w) A (call (.ref f) [.ref x, b]) (PySem.W.CmpBack Q) E s) : wpAny (model prog w) A (binaryOp1 nm' (.ref x) b) (fun r s' => ∃ v, r = some v ∧ Q v s') E s := by
  have X := X₀.keeps F.keep
  obtain ⟨cd, rest, hcd, hmr⟩ := PySem.W.ksp_first hc
  have one := PySem.W.ksp_try X I hs hf h
  obtain ⟨hh, g, d, tt, os⟩ := s
  have L1 : PySem.W.Looks (model prog w) hh (typeOf (.ref x)) (.ref C) := I.type
  have L2 : PySem.W.Looks (model prog w) hh (typeOf b) (.type T) := hT
  have L3 : PySem.W.Looks (model prog w) hh (fillsNumberSlot (.ref C) nm') true := PySem.W.fills_K X hcd hmr hs
  have L4 : PySem.W.Looks (model prog w) hh (fillsNumberSlot (.type T) nm') ((fo.isSome && !isSeqSlot fo) || (ro.isSome && !isSeqSlot ro)) := PySem.W.ksp_fillsT X h1 h2
  have L5 : PySem.W.Looks (model prog w) hh (isSubtype (.type T) (.ref C)) false := PySem.W.looks_subIn X hsub
  have L6 : PySem.W.Looks (model prog w) hh (numberSlotInPython (.ref C) nm') true := PySem.W.ksp_inPy X hs hr (.inl rfl)
  have L7 : PySem.W.Looks (model prog w) hh (numberSlotInPython (.type T) nm') false := PySem.W.Looks.of_pure rfl
  have L8 : PySem.W.Looks (model prog w) hh (typeLookup (.type T) (PySem.dunderR nm')) ro := PySem.W.looks_findIn X h2
  generalize ((fo.isSome && !isSeqSlot fo) || (ro.isSome && !isSeqSlot ro)) = right at L4
  have hne : (Value.ref C == Value.type T) = false := Bool.eq_false_iff.mpr fun q => by cases beq_iff_eq.mp q
  unfold binaryOp1
  refine wpAny_bind (L1.at (wpAny_bind (L2.at (wpAny_bind (L3.at ?_)))))
  simp only [hne, Bool.false_eq_true, if_false]
  cases right with
  | false =>
    ksp_lk
    refine wpAny_mono one (fun r s' hr' => ?_) fun _ _ e => e
    obtain ⟨v, rfl, hq⟩ := hr'
    ksp_lk
    exact ⟨v, rfl, hq⟩
  | true =>
    ksp_lk
    refine wpAny_mono one (fun r s' hr' => ?_) fun _ _ e => e
    obtain ⟨v, rfl, hq⟩ := hr'
    ksp_lk
    exact ⟨v, rfl, hq⟩
theorem bin_T {op : Operator} {fo ro : Option Value} {Q : Value → Shared → Prop} (F : PyProof.Rows.Fr h₀ L s.heap m) (X₀ : K.In h₀) (I : PySem.W.InstAt s.heap x ox C od) (hT : PySem.W.Looks (model prog w) s.heap (typeOf b) (.type T)) (hc : PySem.W.selfFirst K C = true)
    (hs : PySem.W.findIn K (.ref C) (PySem.dunder op.info.2) = some (some (.ref f))) (hf : PySem.W.isFn K (.ref f) = true) (hr : PySem.W.findIn K (.ref C) (PySem.dunderR op.info.2) = some Option.none)
    (h1 : PySem.W.findIn K (.type T) (PySem.dunder op.info.2) = some fo) (h2 : PySem.W.findIn K (.type T) (PySem.dunderR op.info.2) = some ro) (hsub : PySem.W.subIn K (.type T) (.ref C) = some false)
    (h : wpAny (model prog w) A (call (.ref f) [.ref x, b]) (PySem.W.CmpBack Q) E s) : wpAny (model prog w) A (binaryOp op (.ref x) b) Q E s := by
  have one := bin1_T F X₀ I hT hc hs hf hr h1 h2 hsub h
  rcases hi : op.info with ⟨sym, nm'⟩
  rw [hi] at one
  dsimp only at one
  simp only [binaryOp, hi]
  refine wpAny_holding (wpAny_bind (wpAny_mono one (fun r s' hr' => ?_) fun _ _ e => e))
  obtain ⟨v, rfl, hq⟩ := hr'
  exact wpAny_pure hq
/-- x != y where y's class is below x's: y is asked first -/
theorem ne_R {y C' : Addr} {oy : Obj} {od' : Option Obj} {Q : Value → Shared → Prop} (hu : A.units + 1 < cLine) (X : K.In s.heap) (I : PySem.W.InstAt s.heap x ox C od) (J : PySem.W.InstAt s.heap y oy C' od') (hn : PySem.W.subIn K (.ref C') (.ref C) = some true) (ne : (Value.ref C != Value.ref C') = true)
    (hm : PySem.W.mroIn K C' (.type "object") = some true) (he : PySem.W.findIn K (.ref C') "__ne__" = some (some (.builtin "object.__ne__"))) (hs : PySem.W.findIn K (.ref C') "__eq__" = some (some (.ref f))) (hf : PySem.W.isFn K (.ref f) = true)
    (h : wpAny (model prog w) A.in1 (call (.ref f) [.ref y, .ref x]) (fun v s' => ∃ c, v = .bool c ∧ Q (.bool (!c)) s') E s) : wpAny (model prog w) A (richCompare .NotEq (.ref x) (.ref y)) Q E s := by
  have one : wpAny (model prog w) A (tryCompare (.ref y) (cmpInfo .NotEq).2.2 (.ref x)) (fun r s' => ∃ v, r = some v ∧ Q v s') E s := by
    unfold tryCompare
    refine wpAny_bind (ifBound_objNe X J he (wpAny_call (codeAny_call_builtin PySem.F.cmp_object.ne.plain PySem.F.cmpEntry_ne (PySem.W.check_slot PySem.F.cmpKind_ne PySem.F.cmpSplit_ne (J.type.andThen (PySem.W.looks_mroIn X hm)) (PySem.F.cmpArgs_ne _ _)
      (neO_entry (A := A.in1) hu X J hs hf (wpAny_mono h (fun v s' hv => ?_) fun _ _ e => e))))))
    obtain ⟨c, rfl, hq⟩ := hv
    exact ⟨c, rfl, wpAny_pure ⟨_, rfl, hq⟩⟩
  unfold richCompare
  simp only [oneThing_ref]
  refine wpAny_holding (wpAny_bind (wpAny_cRoomFor (Nat.lt_of_succ_lt hu) ?_))
  refine wpAny_bind (I.type.here (wpAny_bind (J.type.here ?_)))
  rw [if_pos ne]
  refine wpAny_bind ((PySem.W.looks_subIn X hn).here ?_)
  simp only [if_true]
  refine wpAny_bind (wpAny_mono one (fun r s' z => ?_) fun _ _ e => e)
  obtain ⟨v, rfl, hq⟩ := z
  exact wpAny_bind (wpAny_rule (wpAny_pure hq))
end
section
variable {X : Cx} {CX : CXT} {k : Nat} {g : Addr} {fd : FuncData} {ps : List Str} {sp : Sp} {E : XK}
/-- x op y, x an instance whose method is the def at g, y of a built-in kind -/
def rBinW (K : PySem.W.Frag) (g : Addr) (op : Operator) (sp : Sp) (E : XK) : R2 := fun x y H Q => ∃ (a C dx : Addr) (fs : List (Str × V)) (T : String), x = .ref a ∧ H a = some (.ins C dx fs) ∧ TyX K H y (.type T) ∧ OwnBinT K C g op T ∧ sp [.ref a, y] H (fun v H' => ∃ b, v = .ref b ∧ Q (.ref b) H') E
theorem op_binW {op : Operator} (K : PySem.W.Frag) (hK : X.K = K) (F : FnOk X.prog X.w X.K X.mg X.base CX k g fd ps sp) (hr : Room k X.A) (hb : Binds X.K fd ps []) (hx : Passes CX X E) : OpR X (binaryOp op) (rBinW K g op sp E) := by
  subst hK
  intro pins s σ H x y v u Q I rx ry h
  obtain ⟨a, C, dx, fs, T, rfl, ha, ty, O, q⟩ := h
  obtain rfl : v = Value.ref a := rx
  obtain ⟨o, od, J⟩ := ins_at I ha
  obtain ⟨P, Z, hP, _⟩ := kit_of I ry ty
  obtain ⟨m, hF⟩ := I.fr
  obtain ⟨fo, h1⟩ := O.h1
  obtain ⟨ro, h2⟩ := O.h2
  refine bin_T hF I.ok.mod.kin J (Z.ty _ _ I.kIn hP) O.hc O.hs O.hf O.hr h1 h2 O.hsub (thn (run_fn (us := [.ref a, u]) (vs := [.ref a, y]) F hr hb .nil hx I (.cons rfl (.cons ry .nil)) q) fun r s1 z => ?_)
  obtain ⟨w, H1, I1, rw1, b, rfl, q1⟩ := z
  cases rw1
  exact ⟨.ref b, H1, I1, rfl, q1⟩
/-- x op= i -/
def rIpW (K : PySem.W.Frag) (g : Addr) (op : Operator) (sp : Sp) (E : XK) : R2 := fun x y H Q => ∃ (a C dx : Addr) (fs : List (Str × V)) (i : Int), x = .ref a ∧ y = .int i ∧ H a = some (.ins C dx fs) ∧ OwnBin K C g op ∧ mroNone K C (PySem.dunderI op.info.2) ∧ sp [.ref a, .int i] H (fun v H' => ∃ b, v = .ref b ∧ Q (.ref b) H') E
theorem ip_ownW {op : Operator} (K : PySem.W.Frag) (hK : X.K = K) (F : FnOk X.prog X.w X.K X.mg X.base CX k g fd ps sp) (hr : Room k X.A) (hb : Binds X.K fd ps []) (hx : Passes CX X E) : PIp X op (rIpW K g op sp E) := by
  subst hK
  intro pins s σ H x y v u Q I rx ry h
  obtain ⟨a, C, dx, fs, i, rfl, rfl, ha, O, hm, q⟩ := h
  exact ip_own O hm F hr hb hx pins s σ H (.ref a) (.int i) v u Q I rx ry ⟨a, dx, fs, i, rfl, rfl, ha, q⟩
/-- x != y of instances, their == the def at g -/
def rNeW (K : PySem.W.Frag) (g : Addr) (sp : Sp) (E : XK) : R2 := fun x y H Q => ∃ (a b C C' dx dy : Addr) (fs gs : List (Str × V)), x = .ref a ∧ y = .ref b ∧ H a = some (.ins C dx fs) ∧ H b = some (.ins C' dy gs) ∧
  ((PySem.W.notFirst K C (.ref C') = true ∧ PySem.W.mroIn K C (.type "object") = some true ∧ PySem.W.findIn K (.ref C) "__ne__" = some (some (.builtin "object.__ne__")) ∧ PySem.W.findIn K (.ref C) "__eq__" = some (some (.ref g)) ∧ sp [.ref a, .ref b] H (fun v H' => ∃ c, v = .bl c ∧ Q (.bl (!c)) H') E) ∨
   (PySem.W.subIn K (.ref C') (.ref C) = some true ∧ (Value.ref C != Value.ref C') = true ∧ PySem.W.mroIn K C' (.type "object") = some true ∧ PySem.W.findIn K (.ref C') "__ne__" = some (some (.builtin "object.__ne__")) ∧ PySem.W.findIn K (.ref C') "__eq__" = some (some (.ref g)) ∧ sp [.ref b, .ref a] H (fun v H' => ∃ c, v = .bl c ∧ Q (.bl (!c)) H') E))
theorem op_neW (K : PySem.W.Frag) (hK : X.K = K) (F : FnOk X.prog X.w X.K X.mg X.base CX k g fd ps sp) (hr : Room (k + 1) X.A) (hb : Binds X.K fd ps []) (hx : Passes CX X E) (hf : PySem.W.isFn X.K (.ref g) = true) : OpR X (compareOp .NotEq) (rNeW K g sp E) := by
  subst hK
  intro pins s σ H x y v u Q I rx ry h
  obtain ⟨a, b, C, C', dx, dy, fs, gs, rfl, rfl, ha, hb2, h⟩ := h
  obtain rfl : v = Value.ref a := rx
  obtain rfl : u = Value.ref b := ry
  obtain ⟨o, od, J⟩ := ins_at I ha
  obtain ⟨o2, od2, J2⟩ := ins_at I hb2
  obtain ⟨m, hF⟩ := I.fr
  have hu := hr.units
  show wpAny (model X.prog X.w) X.A (richCompare .NotEq (.ref a) (.ref b)) (EP X pins σ Q) X.xe s
  rcases h with ⟨nf, hm, he, hs, q⟩ | ⟨sb, ne, hm, he, hs, q⟩
  · refine ne_own (tb := .ref C') (by omega) hF I.ok.mod.kin J J2.type nf hm he hs hf (thn (run_fn1 (us := [.ref a, .ref b]) (vs := [.ref a, .ref b]) F hr hb hx I (.cons rfl (.cons rfl .nil)) q) fun r s1 z => ?_)
    obtain ⟨w, H1, I1, rw1, c, rfl, q1⟩ := z
    cases rw1
    exact ⟨c, rfl, .bl (!c), H1, I1, rfl, q1⟩
  · refine ne_R (by omega) I.kIn J J2 sb ne hm he hs hf (thn (run_fn1 (us := [.ref b, .ref a]) (vs := [.ref b, .ref a]) F hr hb hx I (.cons rfl (.cons rfl .nil)) q) fun r s1 z => ?_)
    obtain ⟨w, H1, I1, rw1, c, rfl, q1⟩ := z
    cases rw1
    exact ⟨c, rfl, .bl (!c), H1, I1, rfl, q1⟩
end


end
/-- what the top has written -/
structure Txt (K : PySem.W.Frag) (mg : Str → Option Value) where
  a_Wheel : Addr
  a_Even : Addr
  a_Exact : Addr
  a_Lagging : Addr
  a_Grid : Addr
  a_Words : Addr
  m_Wheel : mg "Wheel" = some (.ref a_Wheel)
  m_Even : mg "Even" = some (.ref a_Even)
  m_Exact : mg "Exact" = some (.ref a_Exact)
  m_Lagging : mg "Lagging" = some (.ref a_Lagging)
  m_Grid : mg "Grid" = some (.ref a_Grid)
  m_Words : mg "Words" = some (.ref a_Words)
  p_read : Addr
  a_is_whole : Addr
  fd_is_whole : FuncData
  F_is_whole : Fun K "is_whole" "is_whole" s_is_whole a_is_whole fd_is_whole
  m_is_whole : mg "is_whole" = some (.ref a_is_whole)
  a_is_between : Addr
  fd_is_between : FuncData
  F_is_between : Fun K "is_between" "is_between" s_is_between a_is_between fd_is_between
  m_is_between : mg "is_between" = some (.ref a_is_between)
  a_number_in : Addr
  fd_number_in : FuncData
  F_number_in : Fun K "number_in" "number_in" s_number_in a_number_in fd_number_in
  m_number_in : mg "number_in" = some (.ref a_number_in)
  a_need_part : Addr
  fd_need_part : FuncData
  F_need_part : Fun K "need_part" "need_part" s_need_part a_need_part fd_need_part
  m_need_part : mg "need_part" = some (.ref a_need_part)
  a_take_wheel : Addr
  fd_take_wheel : FuncData
  F_take_wheel : Fun K "take_wheel" "take_wheel" s_take_wheel a_take_wheel fd_take_wheel
  m_take_wheel : mg "take_wheel" = some (.ref a_take_wheel)
  a_pen : Addr
  fd_pen : FuncData
  F_pen : Fun K "_law_pen" "_law_pen" s_pen a_pen fd_pen
  m_pen : mg "_law_pen" = some (.ref a_pen)
  a_draw : Addr
  fd_draw : FuncData
  F_draw : Fun K "_law_draw" "_law_draw" s_draw a_draw fd_draw
  m_draw : mg "_law_draw" = some (.ref a_draw)
  a_pick : Addr
  fd_pick : FuncData
  F_pick : Fun K "_law_pick" "_law_pick" s_pick a_pick fd_pick
  m_pick : mg "_law_pick" = some (.ref a_pick)
  a_heard : Addr
  fd_heard : FuncData
  F_heard : Fun K "_law_heard" "_law_heard" s_heard a_heard fd_heard
  m_heard : mg "_law_heard" = some (.ref a_heard)
  a_wheel : Addr
  fd_wheel : FuncData
  F_wheel : Fun K "_law_wheel" "_law_wheel" s_wheel a_wheel fd_wheel
  m_wheel : mg "_law_wheel" = some (.ref a_wheel)
  a_of : Addr
  fd_of : FuncData
  F_of : Fun K "_law_of" "_law_of" s_of a_of fd_of
  m_of : mg "_law_of" = some (.ref a_of)
  a_due : Addr
  fd_due : FuncData
  F_due : Fun K "_law_due" "_law_due" s_due a_due fd_due
  m_due : mg "_law_due" = some (.ref a_due)
  a_bound : Addr
  fd_bound : FuncData
  F_bound : Fun K "_law_bound" "_law_bound" s_bound a_bound fd_bound
  m_bound : mg "_law_bound" = some (.ref a_bound)
  a_made_right : Addr
  fd_made_right : FuncData
  F_made_right : Fun K "_law_made_right" "_law_made_right" s_made_right a_made_right fd_made_right
  m_made_right : mg "_law_made_right" = some (.ref a_made_right)
  a_is_figures : Addr
  fd_is_figures : FuncData
  F_is_figures : Fun K "_law_is_figures" "_law_is_figures" s_is_figures a_is_figures fd_is_figures
  m_is_figures : mg "_law_is_figures" = some (.ref a_is_figures)
  a_wrong : Addr
  fd_wrong : FuncData
  F_wrong : Fun K "_law_wrong" "_law_wrong" s_wrong a_wrong fd_wrong
  m_wrong : mg "_law_wrong" = some (.ref a_wrong)
  a_bent : Addr
  fd_bent : FuncData
  F_bent : Fun K "_law_bent" "_law_bent" s_bent a_bent fd_bent
  m_bent : mg "_law_bent" = some (.ref a_bent)
  a_read_right : Addr
  fd_read_right : FuncData
  F_read_right : Fun K "_law_read_right" "_law_read_right" s_read_right a_read_right fd_read_right
  m_read_right : mg "_law_read_right" = some (.ref a_read_right)
  a_law : Addr
  fd_law : FuncData
  F_law : Fun K "law" "law" s_law a_law fd_law
  m_law : mg "law" = some (.ref a_law)
  a_BadNumber_init : Addr
  fd_BadNumber_init : FuncData
  F_BadNumber_init : Fun K "__init__" "BadNumber.__init__" s_BadNumber_init a_BadNumber_init fd_BadNumber_init
  a_BadWheel_init : Addr
  fd_BadWheel_init : FuncData
  F_BadWheel_init : Fun K "__init__" "BadWheel.__init__" s_BadWheel_init a_BadWheel_init fd_BadWheel_init
  a_BadText_init : Addr
  fd_BadText_init : FuncData
  F_BadText_init : Fun K "__init__" "BadText.__init__" s_BadText_init a_BadText_init fd_BadText_init
  a_Words_init : Addr
  fd_Words_init : FuncData
  F_Words_init : FunD K "__init__" "Words.__init__" (defArgs s_Words_init) (defBody s_Words_init) (defScope s_Words_init) [V.int 0] [] a_Words_init fd_Words_init
  a_Words_upcoming : Addr
  fd_Words_upcoming : FuncData
  F_Words_upcoming : Fun K "upcoming" "Words.upcoming" s_Words_upcoming a_Words_upcoming fd_Words_upcoming
  a_Words_take : Addr
  fd_Words_take : FuncData
  F_Words_take : Fun K "take" "Words.take" s_Words_take a_Words_take fd_Words_take
  a_Words_take_number : Addr
  fd_Words_take_number : FuncData
  F_Words_take_number : Fun K "take_number" "Words.take_number" s_Words_take_number a_Words_take_number fd_Words_take_number
  a_Words_finish : Addr
  fd_Words_finish : FuncData
  F_Words_finish : Fun K "finish" "Words.finish" s_Words_finish a_Words_finish fd_Words_finish
  a_Wheel_init : Addr
  fd_Wheel_init : FuncData
  F_Wheel_init : Fun K "__init__" "Wheel.__init__" s_Wheel_init a_Wheel_init fd_Wheel_init
  a_Wheel_read : Addr
  fd_Wheel_read : FuncData
  F_Wheel_read : Fun K "read" "Wheel.read" s_Wheel_read a_Wheel_read fd_Wheel_read
  a_Wheel_eq : Addr
  fd_Wheel_eq : FuncData
  F_Wheel_eq : Fun K "__eq__" "Wheel.__eq__" s_Wheel_eq a_Wheel_eq fd_Wheel_eq
  a_Wheel_str : Addr
  fd_Wheel_str : FuncData
  F_Wheel_str : Fun K "__str__" "Wheel.__str__" s_Wheel_str a_Wheel_str fd_Wheel_str
  a_Wheel_mul : Addr
  fd_Wheel_mul : FuncData
  F_Wheel_mul : Fun K "__mul__" "Wheel.__mul__" s_Wheel_mul a_Wheel_mul fd_Wheel_mul
  a_Wheel_wider : Addr
  fd_Wheel_wider : FuncData
  F_Wheel_wider : Fun K "wider" "Wheel.wider" s_Wheel_wider a_Wheel_wider fd_Wheel_wider
  a_Even_init : Addr
  cda_Even_init : Addr
  cc_Even_init : Addr
  fd_Even_init : FuncData
  F_Even_init : FunS K "__init__" "Even.__init__" s_Even_init a_Even_init cda_Even_init cc_Even_init fd_Even_init
  so_Even_init : SupK K mg lawFile cda_Even_init cc_Even_init a_Even a_Wheel_init
  a_Exact_init : Addr
  cda_Exact_init : Addr
  cc_Exact_init : Addr
  fd_Exact_init : FuncData
  F_Exact_init : FunS K "__init__" "Exact.__init__" s_Exact_init a_Exact_init cda_Exact_init cc_Exact_init fd_Exact_init
  so_Exact_init : SupK K mg lawFile cda_Exact_init cc_Exact_init a_Exact a_Wheel_init
  a_Lagging_init : Addr
  cda_Lagging_init : Addr
  cc_Lagging_init : Addr
  fd_Lagging_init : FuncData
  F_Lagging_init : FunS K "__init__" "Lagging.__init__" s_Lagging_init a_Lagging_init cda_Lagging_init cc_Lagging_init fd_Lagging_init
  so_Lagging_init : SupK K mg lawFile cda_Lagging_init cc_Lagging_init a_Lagging a_Wheel_init
  a_Grid_init : Addr
  cda_Grid_init : Addr
  cc_Grid_init : Addr
  fd_Grid_init : FuncData
  F_Grid_init : FunS K "__init__" "Grid.__init__" s_Grid_init a_Grid_init cda_Grid_init cc_Grid_init fd_Grid_init
  so_Grid_init : SupK K mg lawFile cda_Grid_init cc_Grid_init a_Grid a_Wheel_init
  n_ValueError : mg "ValueError" = none
  n_abs : mg "abs" = none
  n_bool : mg "bool" = none
  n_enumerate : mg "enumerate" = none
  n_int : mg "int" = none
  n_isinstance : mg "isinstance" = none
  n_len : mg "len" = none
  n_list : mg "list" = none
  n_property : mg "property" = none
  n_range : mg "range" = none
  n_repr : mg "repr" = none
  n_staticmethod : mg "staticmethod" = none
  n_str : mg "str" = none
  n_super : mg "super" = none
  bad : BadW K mg
  badN : BadN K mg
  badT : BadT K mg
  u_MP : Value
  m_MP : mg "MOST_PERIOD" = some u_MP
  r_MP : RelV (.int 1000000000000) u_MP
  u_MD : Value
  m_MD : mg "MOST_DIGITS" = some u_MD
  r_MD : RelV (.int 120) u_MD
  wcls : Cls K a_Words
  wmk : Mk K a_Words a_Words_init
  w_upcoming : Meth K a_Words "upcoming" a_Words_upcoming
  w_take : Meth K a_Words "take" a_Words_take
  w_take_number : Meth K a_Words "take_number" a_Words_take_number
  w_finish : Meth K a_Words "finish" a_Words_finish
  w_na : ∀ y ∈ (["words", "line", "at"] : List Str), NoAttr K a_Words y
  rdW : ClX.CRead K a_Wheel (.type "type")
  st_read : CStat K a_Wheel (.type "type") "read" p_read a_Wheel_read
section
variable {P : Program} {w : World} {K : PySem.W.Frag} {mg : Str → Option Value} {base : Heap}
theorem b_is_whole (T : Txt K mg) : Binds K T.fd_is_whole ["value"] [] := T.F_is_whole.binds (ps := ["value"]) fun _ _ _ _ _ _ us hl => match us, hl with | [_], _ => rfl
theorem b_is_between (T : Txt K mg) : Binds K T.fd_is_between ["value", "low", "high"] [] := T.F_is_between.binds (ps := ["value", "low", "high"]) fun _ _ _ _ _ _ us hl => match us, hl with | [_, _, _], _ => rfl
theorem b_number_in (T : Txt K mg) : Binds K T.fd_number_in ["word"] [] := T.F_number_in.binds (ps := ["word"]) fun _ _ _ _ _ _ us hl => match us, hl with | [_], _ => rfl
theorem b_need_part (T : Txt K mg) : Binds K T.fd_need_part ["value", "least", "part"] [] := T.F_need_part.binds (ps := ["value", "least", "part"]) fun _ _ _ _ _ _ us hl => match us, hl with | [_, _, _], _ => rfl
theorem b_take_wheel (T : Txt K mg) : Binds K T.fd_take_wheel ["words"] [] := T.F_take_wheel.binds (ps := ["words"]) fun _ _ _ _ _ _ us hl => match us, hl with | [_], _ => rfl
theorem b_pen (T : Txt K mg) : Binds K T.fd_pen ["_law_script"] [] := T.F_pen.binds (ps := ["_law_script"]) fun _ _ _ _ _ _ us hl => match us, hl with | [_], _ => rfl
theorem b_draw (T : Txt K mg) : Binds K T.fd_draw ["_law_pen_here", "_law_many"] [] := T.F_draw.binds (ps := ["_law_pen_here", "_law_many"]) fun _ _ _ _ _ _ us hl => match us, hl with | [_, _], _ => rfl
theorem b_pick (T : Txt K mg) : Binds K T.fd_pick ["_law_pen_here", "_law_some"] [] := T.F_pick.binds (ps := ["_law_pen_here", "_law_some"]) fun _ _ _ _ _ _ us hl => match us, hl with | [_, _], _ => rfl
theorem b_heard (T : Txt K mg) : Binds K T.fd_heard ["_law_ask"] [] := T.F_heard.binds (ps := ["_law_ask"]) fun _ _ _ _ _ _ us hl => match us, hl with | [_], _ => rfl
theorem b_wheel (T : Txt K mg) : Binds K T.fd_wheel ["_law_pen_here"] [] := T.F_wheel.binds (ps := ["_law_pen_here"]) fun _ _ _ _ _ _ us hl => match us, hl with | [_], _ => rfl
theorem b_of (T : Txt K mg) : Binds K T.fd_of ["_law_plain"] [] := T.F_of.binds (ps := ["_law_plain"]) fun _ _ _ _ _ _ us hl => match us, hl with | [_], _ => rfl
theorem b_due (T : Txt K mg) : Binds K T.fd_due ["_law_plain"] [] := T.F_due.binds (ps := ["_law_plain"]) fun _ _ _ _ _ _ us hl => match us, hl with | [_], _ => rfl
theorem b_bound (T : Txt K mg) : Binds K T.fd_bound ["_law_made", "_law_n"] [] := T.F_bound.binds (ps := ["_law_made", "_law_n"]) fun _ _ _ _ _ _ us hl => match us, hl with | [_, _], _ => rfl
theorem b_made_right (T : Txt K mg) : Binds K T.fd_made_right ["_law_pen_here", "_law_plain"] [] := T.F_made_right.binds (ps := ["_law_pen_here", "_law_plain"]) fun _ _ _ _ _ _ us hl => match us, hl with | [_, _], _ => rfl
theorem b_is_figures (T : Txt K mg) : Binds K T.fd_is_figures ["_law_word", "_law_least"] [] := T.F_is_figures.binds (ps := ["_law_word", "_law_least"]) fun _ _ _ _ _ _ us hl => match us, hl with | [_, _], _ => rfl
theorem b_wrong (T : Txt K mg) : Binds K T.fd_wrong ["_law_words"] [] := T.F_wrong.binds (ps := ["_law_words"]) fun _ _ _ _ _ _ us hl => match us, hl with | [_], _ => rfl
theorem b_bent (T : Txt K mg) : Binds K T.fd_bent ["_law_pen_here", "_law_words"] [] := T.F_bent.binds (ps := ["_law_pen_here", "_law_words"]) fun _ _ _ _ _ _ us hl => match us, hl with | [_, _], _ => rfl
theorem b_read_right (T : Txt K mg) : Binds K T.fd_read_right ["_law_pen_here", "_law_plain"] [] := T.F_read_right.binds (ps := ["_law_pen_here", "_law_plain"]) fun _ _ _ _ _ _ us hl => match us, hl with | [_, _], _ => rfl
theorem b_law (T : Txt K mg) : Binds K T.fd_law ["_law_script"] [] := T.F_law.binds (ps := ["_law_script"]) fun _ _ _ _ _ _ us hl => match us, hl with | [_], _ => rfl
theorem b_BadNumber_init (T : Txt K mg) : Binds K T.fd_BadNumber_init ["self", "value"] [] := T.F_BadNumber_init.binds (ps := ["self", "value"]) fun _ _ _ _ _ _ us hl => match us, hl with | [_, _], _ => rfl
theorem b_BadWheel_init (T : Txt K mg) : Binds K T.fd_BadWheel_init ["self", "part"] [] := T.F_BadWheel_init.binds (ps := ["self", "part"]) fun _ _ _ _ _ _ us hl => match us, hl with | [_, _], _ => rfl
theorem b_BadText_init (T : Txt K mg) : Binds K T.fd_BadText_init ["self", "line", "word"] [] := T.F_BadText_init.binds (ps := ["self", "line", "word"]) fun _ _ _ _ _ _ us hl => match us, hl with | [_, _, _], _ => rfl
theorem b_Words_upcoming (T : Txt K mg) : Binds K T.fd_Words_upcoming ["self"] [] := T.F_Words_upcoming.binds (ps := ["self"]) fun _ _ _ _ _ _ us hl => match us, hl with | [_], _ => rfl
theorem b_Words_take_number (T : Txt K mg) : Binds K T.fd_Words_take_number ["self", "low", "high"] [] := T.F_Words_take_number.binds (ps := ["self", "low", "high"]) fun _ _ _ _ _ _ us hl => match us, hl with | [_, _, _], _ => rfl
theorem b_Words_finish (T : Txt K mg) : Binds K T.fd_Words_finish ["self"] [] := T.F_Words_finish.binds (ps := ["self"]) fun _ _ _ _ _ _ us hl => match us, hl with | [_], _ => rfl
theorem b_Wheel_init (T : Txt K mg) : Binds K T.fd_Wheel_init ["self", "period", "back", "ahead"] [] := T.F_Wheel_init.binds (ps := ["self", "period", "back", "ahead"]) fun _ _ _ _ _ _ us hl => match us, hl with | [_, _, _, _], _ => rfl
theorem b_Wheel_read (T : Txt K mg) : Binds K T.fd_Wheel_read ["text"] [] := T.F_Wheel_read.binds (ps := ["text"]) fun _ _ _ _ _ _ us hl => match us, hl with | [_], _ => rfl
theorem b_Wheel_eq (T : Txt K mg) : Binds K T.fd_Wheel_eq ["self", "other"] [] := T.F_Wheel_eq.binds (ps := ["self", "other"]) fun _ _ _ _ _ _ us hl => match us, hl with | [_, _], _ => rfl
theorem b_Wheel_str (T : Txt K mg) : Binds K T.fd_Wheel_str ["self"] [] := T.F_Wheel_str.binds (ps := ["self"]) fun _ _ _ _ _ _ us hl => match us, hl with | [_], _ => rfl
theorem b_Wheel_mul (T : Txt K mg) : Binds K T.fd_Wheel_mul ["self", "n"] [] := T.F_Wheel_mul.binds (ps := ["self", "n"]) fun _ _ _ _ _ _ us hl => match us, hl with | [_, _], _ => rfl
theorem b_Wheel_wider (T : Txt K mg) : Binds K T.fd_Wheel_wider ["self", "k"] [] := T.F_Wheel_wider.binds (ps := ["self", "k"]) fun _ _ _ _ _ _ us hl => match us, hl with | [_, _], _ => rfl
theorem b_Even_init (T : Txt K mg) : Binds K T.fd_Even_init ["self", "period", "slip"] [] := T.F_Even_init.binds (ps := ["self", "period", "slip"]) fun _ _ _ _ _ us hl => match us, hl with | [_, _, _], _ => rfl
theorem b_Exact_init (T : Txt K mg) : Binds K T.fd_Exact_init ["self", "period"] [] := T.F_Exact_init.binds (ps := ["self", "period"]) fun _ _ _ _ _ us hl => match us, hl with | [_, _], _ => rfl
theorem b_Lagging_init (T : Txt K mg) : Binds K T.fd_Lagging_init ["self", "period", "lag"] [] := T.F_Lagging_init.binds (ps := ["self", "period", "lag"]) fun _ _ _ _ _ us hl => match us, hl with | [_, _, _], _ => rfl
theorem b_Grid_init (T : Txt K mg) : Binds K T.fd_Grid_init ["self", "period"] [] := T.F_Grid_init.binds (ps := ["self", "period"]) fun _ _ _ _ _ us hl => match us, hl with | [_, _], _ => rfl

def spWhole : Sp := fun vs H Q _ => ∃ (v : V) (t : String), vs = [v] ∧ NT H v t ∧ Q (.bl (t == "int")) H
theorem ok_is_whole (T : Txt K mg) : FnOk P w K mg base CX0 1 T.a_is_whole T.fd_is_whole ["value"] spWhole := by
  refine T.F_is_whole.ok sc_is_whole (fun vs H Q E h => ?_) (fun cdv A outer s H vs Q E hr h => ?_)
  · obtain ⟨v, t, rfl, _⟩ := h; rfl
  · obtain ⟨v, t, rfl, ht, k⟩ := h
    obtain ⟨b1, b2, h1, h2, h3⟩ := ht.kit
    refine ⟨_, pss_one (ps_ret (pe_and (pe_callB call_isi (by rfl) T.n_isinstance (by decide +kernel) (pa_cons (pv 0) (pa_cons (pe_bltn (v := .ty "int") (u := .type "int") (by rfl) T.n_int (by decide +kernel) rfl) (pa_nil)))) (pe_one (pe_not (pe_callB call_isi (by rfl) T.n_isinstance (by decide +kernel) (pa_cons (pv 0) (pa_cons (pe_bltn (v := .ty "bool") (u := .type "bool") (by rfl) T.n_bool (by decide +kernel) rfl) (pa_nil)))))))), ?_⟩
    refine ⟨_, rfl, v, .ty "int", .type t, .type "int", b1, rfl, .ty _, ht.ty, kit_ty h1, b1, rfl, ?_⟩
    rw [← h3] at k
    cases b1 with
    | false => exact iteF k
    | true => exact iteT ⟨_, rfl, v, .ty "bool", .type t, .type "bool", b2, rfl, .ty _, ht.ty, kit_ty h2, b2, rfl, k⟩

/-- whether v is an integer between the two -/
def betB (lo hi : Int) : V → Bool
  | .int i => decide (lo ≤ i ∧ i ≤ hi)
  | _ => false
def spBetK : Sp := fun vs H Q _ => ∃ (v : V) (t : String) (lo hi : Int), vs = [v, .int lo, .int hi] ∧ NT H v t ∧ Q (.bl (betB lo hi v)) H
theorem betB_no {H : Hp} {v : V} {t : String} {lo hi : Int} (h : NT H v t) (n : (t == "int") = false) : betB lo hi v = false := by
  cases h <;> first | rfl | cases n
theorem ok_is_between (T : Txt K mg) : FnOk P w K mg base CX0 2 T.a_is_between T.fd_is_between ["value", "low", "high"] spBetK := by
  refine T.F_is_between.ok sc_is_between (fun vs H Q E h => ?_) (fun cdv A outer s H vs Q E hr h => ?_)
  · obtain ⟨v, t, lo, hi, rfl, _⟩ := h; rfl
  · obtain ⟨v, t, lo, hi, rfl, ht, k⟩ := h
    refine ⟨_, pss_one (ps_ret (pe_and (pe_call (ok_is_whole T) (hr.mono (by decide)) rfl T.m_is_whole T.F_is_whole.kp (b_is_whole T) .nil pass0 (pa_cons (pv 0) (pa_nil))) (pe_one (pe_chain op_le op_le (pv 1) (pv 0) (pv 2))))), ?_⟩
    refine ⟨_, rfl, v, t, rfl, ht, (t == "int"), rfl, ?_⟩
    cases e : (t == "int") with
    | false => rw [betB_no ht e] at k; exact iteF k
    | true =>
      obtain ⟨v, rfl⟩ := ht.isInt (beq_iff_eq.mp e)
      refine iteT ⟨_, rfl, _, rfl, _, _, rfl, rfl, _, rfl, ?_⟩
      refine ite2 (fun hc => ?_) (fun hc => ?_)
      · have hc := of_decide_eq_true hc
        refine ⟨_, rfl, _, _, rfl, rfl, ?_⟩
        refine Eq.mpr (congrArg (fun b => Q (V.bl b) _) ?_) k
        show _ = decide _
        rw [decide_eq_decide]
        exact ⟨fun z => ⟨hc, z⟩, fun z => z.2⟩
      · have hc : ¬ lo ≤ v := fun z => hc (decide_eq_true z)
        refine Eq.mpr (congrArg (fun b => Q (V.bl b) _) ?_) k
        exact (decide_eq_false fun z => hc z.1).symm
/-- a part is in order, or BadWheel tells its name -/
def spNeed (C : Addr) : Sp := fun vs H Q E => ∃ (v : V) (t : String) (lo : Int) (pt : Str), vs = [v, .int lo, .str pt] ∧ NT H v t ∧
  if betB lo 1000000000000 v = true then Q .non H else ∀ (d : Addr) (H2 : Hp), Same H H2 → H d = Option.none → H2 d = some (.xd [("part", .str pt)]) → E (.ref C) (some d) H2
theorem ok_need_part (T : Txt K mg) : FnOk P w K mg base (L2.CX P w) 3 T.a_need_part T.fd_need_part ["value", "least", "part"] (spNeed T.bad.C) := by
  refine T.F_need_part.okX sc_need_part (fun vs H Q E h => ?_) (fun cdv A outer s H vs Q E hr h => ?_)
  · obtain ⟨v, t, lo, pt, rfl, _⟩ := h; rfl
  · obtain ⟨v, t, lo, pt, rfl, ht, k⟩ := h
    refine ⟨_, pss_one (ps_if (pt_not (pt_val (pe_call (ok_is_between T) (hr.mono (by decide)) rfl T.m_is_between T.F_is_between.kp (b_is_between T) .nil pass0 (pa_cons (pv 0) (pa_cons (pv 1) (pa_cons (pe_glob (v := .int 1000000000000) rfl T.m_MP T.r_MP) (pa_nil))))))) (pss_one (ps_raise rfl (takes_of rfl rfl rfl rfl) (pmk_badW T.bad (hr.mono (by decide)) rfl (pv 2)))) (pss_nil)), ?_⟩
    refine ⟨_, rfl, _, rfl, v, t, lo, 1000000000000, rfl, ht, _, rfl, ?_⟩
    cases e : betB lo 1000000000000 v with
    | true => rw [e] at k; exact iteF k
    | false =>
      rw [e] at k
      refine iteT ⟨_, rfl, (by show 1 ≤ 1000; decide), fun a ha => badW_fin T.bad ha fun d H2 s2 hd h2 => k d H2 s2 hd h2⟩

/-- an instance with the three parts -/
def WhAt (H : Hp) (C x : Addr) (p b a : Int) : Prop := ∃ dx, H x = some (.ins C dx [("period", .int p), ("back", .int b), ("ahead", .int a)])
theorem WhAt.same {H H' : Hp} {C x : Addr} {p b a : Int} (s : Same H H') (h : WhAt H C x p b a) : WhAt H' C x p b a := h.elim fun dx h => ⟨dx, s _ _ h⟩
/-- what is in order, or the first part that is not -/
def okParts (lo : List Int) (vs : List V) (pts : List Str) : Option Str := ((lo.zip (vs.zip pts)).find? fun q => !betB q.1 1000000000000 q.2.1).map (·.2.2)
/-- what a class of wheels must have -/
structure WCls (K : PySem.W.Frag) (C : Addr) : Prop where
  cls : Cls K C
  na : ∀ y ∈ (["period", "back", "ahead"] : List Str), NoAttr K C y
def ErrP (H : Hp) (C : Addr) (E : XK) (pt : Str) : Prop := ∀ (d : Addr) (H2 : Hp), Same H H2 → H d = Option.none → H2 d = some (.xd [("part", .str pt)]) → E (.ref C) (some d) H2
theorem ErrP.same {H H' : Hp} {C : Addr} {E : XK} {pt : Str} (s : Same H H') (f : ∀ d, H' d = Option.none → H d = Option.none) (h : ErrP H C E pt) : ErrP H' C E pt := fun d H2 s2 hd h2 => h d H2 (s.trans s2) (f d hd) h2
/-- Wheel.__init__, of an instance of any class of wheels -/
def spWheelInit (K : PySem.W.Frag) (B : Addr) : Sp := fun vs H Q E => ∃ (x C dx : Addr) (p b a : V) (tp tb ta : String), vs = [.ref x, p, b, a] ∧ WCls K C ∧ H x = some (.ins C dx []) ∧ NT H p tp ∧ NT H b tb ∧ NT H a ta ∧
  (betB 2 1000000000000 p = false → ErrP H B E "period") ∧
  (betB 2 1000000000000 p = true → betB 0 1000000000000 b = false → ErrP H B E "back") ∧
  (betB 2 1000000000000 p = true → betB 0 1000000000000 b = true → betB 0 1000000000000 a = false → ErrP H B E "ahead") ∧
  (∀ i j k : Int, p = .int i → b = .int j → a = .int k → 2 ≤ i → i ≤ 1000000000000 → 0 ≤ j → j ≤ 1000000000000 → 0 ≤ k → k ≤ 1000000000000 → Q .non (upd H x (.ins C dx [("period", .int i), ("back", .int j), ("ahead", .int k)])))
theorem betB_get {lo hi : Int} {v : V} (h : betB lo hi v = true) : ∃ i, v = .int i ∧ lo ≤ i ∧ i ≤ hi := by
  cases v with
  | int i => exact ⟨i, rfl, of_decide_eq_true h⟩
  | _ => cases h
theorem ok_Wheel_init (T : Txt K mg) : FnOk P w K mg base (L2.CX P w) 4 T.a_Wheel_init T.fd_Wheel_init ["self", "period", "back", "ahead"] (spWheelInit K T.bad.C) := by
  refine T.F_Wheel_init.okX sc_Wheel_init (fun vs H Q E h => ?_) (fun cdv A outer s H vs Q E hr h => ?_)
  · obtain ⟨x, C, dx, p, b, a, tp, tb, ta, rfl, _⟩ := h; rfl
  · obtain ⟨x, C, dx, p, b, a, tp, tb, ta, rfl, cW, hx, hp, hb, ha, e1, e2, e3, k⟩ := h
    refine ⟨_, pss_cons (ps_expr (pe_call (ok_need_part T) (hr.mono (by decide)) rfl T.m_need_part T.F_need_part.kp (b_need_part T) .nil (passes_call (takes_of rfl rfl rfl rfl) (fun _ _ _ _ h => h)) (pa_cons (pv 1) (pa_cons (pe_int) (pa_cons (pe_str) (pa_nil))))))
      (pss_cons (ps_expr (pe_call (ok_need_part T) (hr.mono (by decide)) rfl T.m_need_part T.F_need_part.kp (b_need_part T) .nil (passes_call (takes_of rfl rfl rfl rfl) (fun _ _ _ _ h => h)) (pa_cons (pv 2) (pa_cons (pe_int) (pa_cons (pe_str) (pa_nil))))))
      (pss_cons (ps_expr (pe_call (ok_need_part T) (hr.mono (by decide)) rfl T.m_need_part T.F_need_part.kp (b_need_part T) .nil (passes_call (takes_of rfl rfl rfl rfl) (fun _ _ _ _ h => h)) (pa_cons (pv 3) (pa_cons (pe_int) (pa_cons (pe_str) (pa_nil))))))
      (pss_cons (ps_fld (pv 0) (pv 1) rfl)
      (pss_cons (ps_fld (pv 0) (pv 2) rfl)
      (pss_one (ps_fld (pv 0) (pv 3) rfl)))))), ?_⟩
    refine ⟨_, rfl, p, tp, 2, "period", rfl, hp, ?_⟩
    refine ite2 (fun h1 => ?_) (fun h1 => e1 (Bool.eq_false_iff.mpr h1))
    refine ⟨_, rfl, b, tb, 0, "back", rfl, hb, ?_⟩
    refine ite2 (fun h2 => ?_) (fun h2 => e2 h1 (Bool.eq_false_iff.mpr h2))
    refine ⟨_, rfl, a, ta, 0, "ahead", rfl, ha, ?_⟩
    refine ite2 (fun h3 => ?_) (fun h3 => e3 h1 h2 (Bool.eq_false_iff.mpr h3))
    obtain ⟨i, rfl, i1, i2⟩ := betB_get h1
    obtain ⟨j, rfl, j1, j2⟩ := betB_get h2
    obtain ⟨l, rfl, l1, l2⟩ := betB_get h3
    refine ⟨_, rfl, _, rfl, x, C, dx, _, rfl, hx, cW.cls, cW.na _ (by simp), (by show 0 < 1000; decide), ?_⟩
    refine ⟨_, rfl, _, rfl, x, C, dx, _, rfl, upd_same, cW.cls, cW.na _ (by simp), (by show 1 < 1000; decide), ?_⟩
    refine ⟨_, rfl, _, rfl, x, C, dx, _, rfl, upd_same, cW.cls, cW.na _ (by simp), (by show 2 < 1000; decide), ?_⟩
    refine Eq.mpr (congrArg (Q V.non) ?_) (k i j l rfl rfl rfl i1 i2 j1 j2 l1 l2)
    funext y
    unfold upd
    split <;> rfl

def spEvenInit (K : PySem.W.Frag) (B D f2 : Addr) : Sp := fun vs H Q E => ∃ (x C dx : Addr) (p b : V) (tp tb : String), vs = [.ref x, p, b] ∧ WCls K C ∧ SupAt K C D f2 "__init__" ∧ H x = some (.ins C dx []) ∧ NT H p tp ∧ NT H b tb ∧
  (betB 2 1000000000000 p = false → ErrP H B E "period") ∧
  (betB 2 1000000000000 p = true → betB 0 1000000000000 b = false → ErrP H B E "slip") ∧
  (∀ i j : Int, p = .int i → b = .int j → 2 ≤ i → i ≤ 1000000000000 → 0 ≤ j → j ≤ 1000000000000 → Q .non (upd H x (.ins C dx [("period", .int i), ("back", .int j), ("ahead", .int j)])))
theorem ok_Even_init (HP : PrF lawFile P) (T : Txt K mg) : FnOk P w K mg base (L2.CX P w) 5 T.a_Even_init T.fd_Even_init ["self", "period", "slip"] (spEvenInit K T.bad.C T.a_Even T.a_Wheel_init) := by
  refine T.F_Even_init.okX sc_Even_init T.so_Even_init (fun vs H Q E h => ?_) (fun A outer s H vs Q E hr h => ?_)
  · obtain ⟨x, C, dx, p, b, tp, tb, rfl, _⟩ := h; rfl
  · obtain ⟨x, C, dx, p, b, tp, tb, rfl, cW, sa, hx, hp, hb, e1, e2, k⟩ := h
    refine ⟨_, psup_cons (ps_expr (pe_call (ok_need_part T) (hr.mono (by decide)) rfl T.m_need_part T.F_need_part.kp (b_need_part T) .nil (passes_call (takes_of rfl rfl rfl rfl) (fun _ _ _ _ h => h)) (pa_cons (pv 1) (pa_cons pe_int (pa_cons pe_str pa_nil)))))
      (psup_cons (ps_expr (pe_call (ok_need_part T) (hr.mono (by decide)) rfl T.m_need_part T.F_need_part.kp (b_need_part T) .nil (passes_call (takes_of rfl rfl rfl rfl) (fun _ _ _ _ h => h)) (pa_cons (pv 2) (pa_cons pe_int (pa_cons pe_str pa_nil)))))
      (psup_super (T.so_Even_init.of HP T.F_Even_init rfl) ((ok_Wheel_init T).raw (b_Wheel_init T) .nil) (hr.mono (by decide)) (passes_call (takes_of rfl rfl rfl rfl) (fun _ _ _ _ h => h)) (pa_cons (pv 1) (pa_cons (pv 2) (pa_cons (pv 2) pa_nil))) rfl rfl rfl rfl rfl rfl rfl)), ?_⟩
    refine ⟨_, rfl, p, tp, 2, "period", rfl, hp, ?_⟩
    refine ite2 (fun h1 => ?_) (fun h1 => e1 (Bool.eq_false_iff.mpr h1))
    refine ⟨_, rfl, b, tb, 0, "slip", rfl, hb, ?_⟩
    refine ite2 (fun h2 => ?_) (fun h2 => e2 h1 (Bool.eq_false_iff.mpr h2))
    obtain ⟨i, rfl, i1, i2⟩ := betB_get h1
    obtain ⟨j, rfl, j1, j2⟩ := betB_get h2
    refine ⟨x, C, dx, [], rfl, hx, sa, _, rfl, _, rfl, _, rfl, x, C, dx, .int i, .int j, .int j, "int", "int", "int", rfl, cW, hx, .int _, .int _, .int _, fun z => absurd (h1.symm.trans z) (by decide), fun _ z => absurd (h2.symm.trans z) (by decide), fun _ _ z => absurd (h2.symm.trans z) (by decide), fun i' j' l' q1 q2 q3 _ _ _ _ _ _ => ?_⟩
    cases q1; cases q2; cases q3
    exact k i j rfl rfl i1 i2 j1 j2
def spLaggingInit (K : PySem.W.Frag) (B D f2 : Addr) : Sp := fun vs H Q E => ∃ (x C dx : Addr) (p b : V) (tp tb : String), vs = [.ref x, p, b] ∧ WCls K C ∧ SupAt K C D f2 "__init__" ∧ H x = some (.ins C dx []) ∧ NT H p tp ∧ NT H b tb ∧
  (betB 2 1000000000000 p = false → ErrP H B E "period") ∧
  (betB 2 1000000000000 p = true → betB 0 1000000000000 b = false → ErrP H B E "lag") ∧
  (∀ i j : Int, p = .int i → b = .int j → 2 ≤ i → i ≤ 1000000000000 → 0 ≤ j → j ≤ 1000000000000 → Q .non (upd H x (.ins C dx [("period", .int i), ("back", .int j), ("ahead", .int 0)])))
theorem ok_Lagging_init (HP : PrF lawFile P) (T : Txt K mg) : FnOk P w K mg base (L2.CX P w) 5 T.a_Lagging_init T.fd_Lagging_init ["self", "period", "lag"] (spLaggingInit K T.bad.C T.a_Lagging T.a_Wheel_init) := by
  refine T.F_Lagging_init.okX sc_Lagging_init T.so_Lagging_init (fun vs H Q E h => ?_) (fun A outer s H vs Q E hr h => ?_)
  · obtain ⟨x, C, dx, p, b, tp, tb, rfl, _⟩ := h; rfl
  · obtain ⟨x, C, dx, p, b, tp, tb, rfl, cW, sa, hx, hp, hb, e1, e2, k⟩ := h
    refine ⟨_, psup_cons (ps_expr (pe_call (ok_need_part T) (hr.mono (by decide)) rfl T.m_need_part T.F_need_part.kp (b_need_part T) .nil (passes_call (takes_of rfl rfl rfl rfl) (fun _ _ _ _ h => h)) (pa_cons (pv 1) (pa_cons pe_int (pa_cons pe_str pa_nil)))))
      (psup_cons (ps_expr (pe_call (ok_need_part T) (hr.mono (by decide)) rfl T.m_need_part T.F_need_part.kp (b_need_part T) .nil (passes_call (takes_of rfl rfl rfl rfl) (fun _ _ _ _ h => h)) (pa_cons (pv 2) (pa_cons pe_int (pa_cons pe_str pa_nil)))))
      (psup_super (T.so_Lagging_init.of HP T.F_Lagging_init rfl) ((ok_Wheel_init T).raw (b_Wheel_init T) .nil) (hr.mono (by decide)) (passes_call (takes_of rfl rfl rfl rfl) (fun _ _ _ _ h => h)) (pa_cons (pv 1) (pa_cons (pv 2) (pa_cons pe_int pa_nil))) rfl rfl rfl rfl rfl rfl rfl)), ?_⟩
    refine ⟨_, rfl, p, tp, 2, "period", rfl, hp, ?_⟩
    refine ite2 (fun h1 => ?_) (fun h1 => e1 (Bool.eq_false_iff.mpr h1))
    refine ⟨_, rfl, b, tb, 0, "lag", rfl, hb, ?_⟩
    refine ite2 (fun h2 => ?_) (fun h2 => e2 h1 (Bool.eq_false_iff.mpr h2))
    obtain ⟨i, rfl, i1, i2⟩ := betB_get h1
    obtain ⟨j, rfl, j1, j2⟩ := betB_get h2
    refine ⟨x, C, dx, [], rfl, hx, sa, _, rfl, _, rfl, x, C, dx, .int i, .int j, .int 0, "int", "int", "int", rfl, cW, hx, .int _, .int _, .int _, fun z => absurd (h1.symm.trans z) (by decide), fun _ z => absurd (h2.symm.trans z) (by decide), fun _ _ z => absurd ((show betB 0 1000000000000 (.int 0) = true by decide).symm.trans z) (by decide), fun i' j' l' q1 q2 q3 _ _ _ _ _ _ => ?_⟩
    cases q1; cases q2; cases q3
    exact k i j rfl rfl i1 i2 j1 j2
def spOneInit (K : PySem.W.Frag) (B D f2 : Addr) : Sp := fun vs H Q E => ∃ (x C dx : Addr) (p : V) (tp : String), vs = [.ref x, p] ∧ WCls K C ∧ SupAt K C D f2 "__init__" ∧ H x = some (.ins C dx []) ∧ NT H p tp ∧
  (betB 2 1000000000000 p = false → ErrP H B E "period") ∧
  (∀ i : Int, p = .int i → 2 ≤ i → i ≤ 1000000000000 → Q .non (upd H x (.ins C dx [("period", .int i), ("back", .int 0), ("ahead", .int 0)])))
theorem ok_Exact_init (HP : PrF lawFile P) (T : Txt K mg) : FnOk P w K mg base (L2.CX P w) 5 T.a_Exact_init T.fd_Exact_init ["self", "period"] (spOneInit K T.bad.C T.a_Exact T.a_Wheel_init) := by
  refine T.F_Exact_init.okX sc_Exact_init T.so_Exact_init (fun vs H Q E h => ?_) (fun A outer s H vs Q E hr h => ?_)
  · obtain ⟨x, C, dx, p, tp, rfl, _⟩ := h; rfl
  · obtain ⟨x, C, dx, p, tp, rfl, cW, sa, hx, hp, e1, k⟩ := h
    refine ⟨_, psup_super (T.so_Exact_init.of HP T.F_Exact_init rfl) ((ok_Wheel_init T).raw (b_Wheel_init T) .nil) (hr.mono (by decide)) (passes_call (takes_of rfl rfl rfl rfl) (fun _ _ _ _ h => h)) (pa_cons (pv 1) (pa_cons pe_int (pa_cons pe_int pa_nil))) rfl rfl rfl rfl rfl rfl rfl, ?_⟩
    have z0 : betB 0 1000000000000 (.int 0) = true := by decide
    refine ⟨x, C, dx, [], rfl, hx, sa, _, rfl, x, C, dx, p, .int 0, .int 0, tp, "int", "int", rfl, cW, hx, hp, .int _, .int _, e1, fun _ z => absurd (z0.symm.trans z) (by decide), fun _ _ z => absurd (z0.symm.trans z) (by decide), fun i' j' l' q1 q2 q3 i1 i2 _ _ _ _ => ?_⟩
    subst q1
    cases q2; cases q3
    exact k i' rfl i1 i2
theorem ok_Grid_init (HP : PrF lawFile P) (T : Txt K mg) : FnOk P w K mg base (L2.CX P w) 5 T.a_Grid_init T.fd_Grid_init ["self", "period"] (spOneInit K T.bad.C T.a_Grid T.a_Wheel_init) := by
  refine T.F_Grid_init.okX sc_Grid_init T.so_Grid_init (fun vs H Q E h => ?_) (fun A outer s H vs Q E hr h => ?_)
  · obtain ⟨x, C, dx, p, tp, rfl, _⟩ := h; rfl
  · obtain ⟨x, C, dx, p, tp, rfl, cW, sa, hx, hp, e1, k⟩ := h
    refine ⟨_, psup_super (T.so_Grid_init.of HP T.F_Grid_init rfl) ((ok_Wheel_init T).raw (b_Wheel_init T) .nil) (hr.mono (by decide)) (passes_call (takes_of rfl rfl rfl rfl) (fun _ _ _ _ h => h)) (pa_cons (pv 1) (pa_cons pe_int (pa_cons pe_int pa_nil))) rfl rfl rfl rfl rfl rfl rfl, ?_⟩
    have z0 : betB 0 1000000000000 (.int 0) = true := by decide
    refine ⟨x, C, dx, [], rfl, hx, sa, _, rfl, x, C, dx, p, .int 0, .int 0, tp, "int", "int", rfl, cW, hx, hp, .int _, .int _, e1, fun _ z => absurd (z0.symm.trans z) (by decide), fun _ _ z => absurd (z0.symm.trans z) (by decide), fun i' j' l' q1 q2 q3 i1 i2 _ _ _ _ => ?_⟩
    subst q1
    cases q2; cases q3
    exact k i' rfl i1 i2

/-- def f(p1, *v) of the text, which may raise -/
theorem star1_okX {x qual p1 pv : Str} {k : Nat} {st : Stmt} {f : Addr} {fd : FuncData} {N : List Str} {sp : V → List V → Hp → VK → XK → Prop} (F : Fun K x qual st f fd) (S : FnScope N [p1, pv] (defScope st))
    (hb : ∀ (kV doc pm : Value) (an : Option Addr) (cdv ct : Value) (a : Value) (rest : List Value), bindArgs (PySem.W.fnOf x qual (defArgs st) (defBody st) (defScope st) .none kV doc pm an cdv ct) ⟨a :: rest, []⟩ = (newTuple rest >>= fun t => pure [(p1, a), (pv, t)]))
    (go : ∀ (cdv : Value) (A : Around) (outer : List Env) (s : Shared) (H : Hp) (a : V) (vs : List V) (p : Addr) (H0 : Hp) (Q : VK) (E : XK), Room k (A.deeper (envOfC qual (defScope st) s.heap.objs.size f cdv)) → sp a vs H0 Q E → vs.length ≤ sizeLine → H0 p = Option.none → H = upd H0 p (.tup vs) →
      ∃ t, PSs (cxOf (L2.CX P w) P w K mg base N qual (defScope st) f cdv A outer s H E) (defBody st) t ∧ t { nx := fun _ H1 => Q .non H1, rt := Q } (start N [a, V.ref p]) H) :
    FnR P w K mg base (L2.CX P w) (k + 1) f (fun vs H Q E => ∃ a rest, vs = a :: rest ∧ rest.length ≤ sizeLine ∧ sp a rest H Q E) := by
  obtain ⟨oc, od, kV, doc, pm, an, cdv, ct, osl, rfl, lk, hcd⟩ := F.ex
  refine FnR.imp (StX.fn_star (ps := [p1]) (pv := pv) (CX := L2.CX P w) (sp := fun ws H Q E => ∃ (a : V) (vs : List V) (p : Addr) (H0 : Hp), ws = [a, V.ref p] ∧ sp a vs H0 Q E ∧ vs.length ≤ sizeLine ∧ H0 p = Option.none ∧ H = upd H0 p (.tup vs)) lk hcd S StX.cxUp (fun us rest hl => ?_) fun A outer s H vs Q E hr h => ?_) fun vs H Q E h => ?_
  · match us, hl with
    | [a], _ =>
      show bindArgs _ { pos := a :: rest, kw := [] } = _
      rw [hb]
      rfl
  · obtain ⟨a, ws, p, H0, rfl, hs, hl, hp, rfl⟩ := h
    exact go cdv A outer s _ a ws p H0 Q E hr hs hl hp rfl
  · obtain ⟨a, rest, rfl, hl, hs⟩ := h
    exact ⟨[a], rest, rfl, rfl, hl, fun p hp => ⟨a, rest, p, H, rfl, hs, hl, hp, rfl⟩⟩

def optI : Option Int → V
  | some n => .int n
  | Option.none => .non
def spNumber : Sp := fun vs H Q _ => ∃ w : Str, vs = [.str w] ∧ w.length ≤ sizeLine ∧ Q (optI (NX.numG w)) H
theorem numG_no {w : Str} (h : ¬ (NX.canon (TL.tl w) = true ∧ (TL.tl w).length ≤ 120)) : optI (NX.numG w) = .non := by
  unfold NX.numG
  rw [if_neg h]
  rfl
theorem ok_number_in (T : Txt K mg) : FnOk P w K mg base CX0 1 T.a_number_in T.fd_number_in ["word"] spNumber := by
  refine T.F_number_in.ok sc_number_in (fun vs H Q E h => ?_) (fun cdv A outer s H vs Q E hr h => ?_)
  · obtain ⟨z, rfl, _⟩ := h; rfl
  · obtain ⟨z, rfl, hz, k⟩ := h
    refine ⟨_, pss_cons (ps_if (PW.pt (pw_or (pt_not (pt_val (pe_m0 PySem.F.slot_str_isascii PySem.F.type_str_isascii mt_isascii (pv 0)))) (pw_or (pt_not (pt_val (pe_m0 PySem.F.slot_str_isdigit PySem.F.type_str_isdigit mt_isdigit (pv 0)))) (pw_or1 (pt_cmpR op_gt (pe_callB call_len_str (by rfl) T.n_len (by decide +kernel) (pa_cons (pv 0) (pa_nil))) (pe_glob (v := .int 120) rfl T.m_MD T.r_MD) (nomark _)))))) (pss_one (ps_ret (pe_non))) (pss_nil))
      (C8.pss_cut (ps_if (PW.pt (pw_and (pt_cmpR op_eq (pe_ix ix_str (pv 0) (pe_int) (fun _ _ => rfl)) (pe_str) (nomark _)) (pw_and1 (pt_cmpR op_gt (pe_callB call_len_str (by rfl) T.n_len (by decide +kernel) (pa_cons (pv 0) (pa_nil))) (pe_int) (nomark _))))) (pss_one (ps_ret (pe_non))) (pss_nil))
      (pss_one (ps_ret (pe_callTy call_int_str (by rfl) T.n_int (by decide +kernel) (pa_cons (pv 0) (pa_nil)))))), ?_⟩
    have AD := NX.ascii_digits z
    have dig : ∀ {b : Bool}, (Txt.isascii z && Txt.isdigit z) = false → optI (NX.numG z) = .non := fun {b} h => numG_no fun c => by
      rw [h] at AD
      have c1 := NX.canon_dig c.1
      have c2 := NX.canon_ne c.1
      rw [c1, Bool.and_true] at AD
      cases q : TL.tl z with
      | nil => exact c2 q
      | cons _ _ => rw [q] at AD; cases AD
    refine ⟨_, rfl, ⟨z, rfl⟩, z, rfl, rfl, trivial, _, rfl, ?_⟩
    cases e1 : Txt.isascii z with
    | false =>
      refine if_true_of rfl (if_true_of rfl ?_)
      rw [dig (b := true) (by rw [e1]; rfl)] at k
      exact k
    | true =>
      refine if_false_of rfl ⟨_, rfl, ⟨z, rfl⟩, z, rfl, rfl, trivial, _, rfl, ?_⟩
      cases e2 : Txt.isdigit z with
      | false =>
        refine if_true_of rfl (if_true_of rfl ?_)
        rw [dig (b := true) (by rw [e1, e2]; rfl)] at k
        exact k
      | true =>
        rw [e1, e2, Bool.and_self, eq_comm, Bool.and_eq_true] at AD
        have ne : TL.tl z ≠ [] := fun q => by rw [q] at AD; exact absurd AD.1 (by decide)
        refine if_false_of rfl ⟨_, rfl, z, rfl, hz, _, _, rfl, rfl, _, rfl, ?_⟩
        have lz : z.length = (TL.tl z).length := TL.len_tl z
        refine ite2 (fun hl => ?_) (fun hl => ?_)
        · have hl := of_decide_eq_true hl
          rw [numG_no (fun c => by have := c.2; omega)] at k
          exact k
        · have hl : ¬ (120 : Int) < (z.length : Nat) := fun q => hl (decide_eq_true q)
          cases q : TL.tl z with
          | nil => exact absurd q ne
          | cons c r =>
            refine ⟨fun σ' H' => σ' = [some (.str z)] ∧ H' = H ∧ NX.canon (TL.tl z) = true, ?_, ?_⟩
            · have at0 : atI z.cps.toList 0 = some c := by
                rw [show z.cps.toList = c :: r from q]
                exact atI_nat (j := 0) (xs := c :: r) rfl
              refine ⟨_, rfl, z, 0, c, rfl, rfl, hz, at0, rfl, _, rfl, ?_⟩
              have dc : decide (V.str ⟨#[c]⟩ = V.str ("0" : Str)) = decide (c = 48) := by
                rw [decide_eq_decide]
                constructor
                · intro e
                  injection e with e
                  have := congrArg (fun s : Str => s.cps.toList) e
                  have : [c] = [48] := this
                  simpa using this
                · rintro rfl
                  rfl
              by_cases hc : c = 48
              · refine if_true_of (by rw [dc, decide_eq_true hc]) ⟨_, rfl, z, rfl, hz, _, _, rfl, rfl, _, rfl, ?_⟩
                refine ite2 (fun h1 => ?_) (fun h1 => ?_)
                · have h1 := of_decide_eq_true h1
                  rw [numG_no (fun c' => by
                    rcases NX.canon_head c'.1 with y | y
                    · rw [q, hc] at y; exact y rfl
                    · omega)] at k
                  exact k
                · have h1 : ¬ (1 : Int) < (z.length : Nat) := fun q => h1 (decide_eq_true q)
                  have hp : 0 < (TL.tl z).length := by rw [q]; simp
                  exact ⟨rfl, rfl, NX.canon_mk ne AD.2 (.inr (by omega))⟩
              · refine if_false_of (by rw [dc, decide_eq_false hc]) ?_
                exact ⟨rfl, rfl, NX.canon_mk ne AD.2 (.inl (by rw [q]; intro y; exact hc (by simpa using y)))⟩
            · rintro σ' H' ⟨rfl, rfl, hcn⟩
              refine ⟨_, rfl, z, _, rfl, NX.int_text hcn (by omega), by omega, ?_⟩
              have e : NX.numG z = some ((NumText.digitsVal (TL.tl z) : Nat) : Int) := by
                unfold NX.numG
                rw [if_pos ⟨hcn, by omega⟩]
              rw [e] at k
              exact k

/-! ### the words of a text, taken one by one -/
def WdAt (T : Txt K mg) (H : Hp) (x L : Addr) (ws : List Str) (i : Nat) : Prop := ∃ dx, H x = some (.ins T.a_Words dx [("words", .ref L), ("line", .int 0), ("at", .int (i : Nat))]) ∧ H L = some (.lst (ws.map V.str)) ∧ x ≠ L
/-- all but x is as it was -/
def But (x : Addr) (H H' : Hp) : Prop := ∀ b o, b ≠ x → H b = some o → H' b = some o
def ErrTx (C : Addr) (i : Nat) (H : Hp) (E : XK) : Prop := ∀ (d : Addr) (H2 : Hp), Same H H2 → H d = Option.none → H2 d = some (.xd [("word", .int (i : Nat)), ("line", .int 0)]) → E (.ref C) (some d) H2
theorem tNil_to {σ : L2.St} {H : Hp} {Q : List V → Hp → Prop} (h : Q [] H) : tNil σ H Q := h
theorem WdAt.same {T : Txt K mg} {H H' : Hp} {x L : Addr} {ws : List Str} {i : Nat} (s : Same H H') (h : WdAt T H x L ws i) : WdAt T H' x L ws i := by
  obtain ⟨dx, h1, h2, h3⟩ := h
  exact ⟨dx, s _ _ h1, s _ _ h2, h3⟩
def spWordsInit (T : Txt K mg) : Sp := fun vs H Q E => ∃ (x dx : Addr) (v : V) (ty : Value) (b : Bool), vs = [.ref x, v, .int 0] ∧ H x = some (.ins T.a_Words dx []) ∧ TyX K H v ty ∧ PySem.W.kitOne K ty (.type "str") = some b ∧
  (b = true → ∃ z : Str, v = .str z ∧ z.length + 2 ≤ sizeLine ∧ ∀ L, H L = Option.none → Q .non (upd (upd H L (.lst ((Txt.split z " ").map V.str))) x (.ins T.a_Words dx [("words", .ref L), ("line", .int 0), ("at", .int 0)]))) ∧
  (b = false → ErrTx T.badT.C 0 H E)
theorem ok_Words_init (T : Txt K mg) : FnOk P w K mg base (L2.CX P w) 3 T.a_Words_init T.fd_Words_init ["self", "text", "line"] (spWordsInit T) := by
  refine T.F_Words_init.ok sc_Words_init (fun vs H Q E h => ?_) (fun cdv A outer s H vs Q E hr h => ?_)
  · obtain ⟨x, dx, v, ty, b, rfl, _⟩ := h; rfl
  · obtain ⟨x, dx, v, ty, b, rfl, hx, ht, hk, k1, k2⟩ := h
    refine ⟨_, pss_cons (ps_if (pt_not (pt_val (pe_callB call_isi (by rfl) T.n_isinstance (by decide +kernel) (pa_cons (pv 1) (pa_cons (pe_bltn (v := .ty "str") (u := .type "str") (by rfl) T.n_str (by decide +kernel) rfl) (pa_nil)))))) (pss_one (ps_raise rfl (takes_of rfl rfl rfl rfl) (pmk_badT T.badT (hr.mono (by decide)) rfl (pv 2) (pe_int)))) (pss_nil))
      (pss_cons (ps_fld (pv 0) (pe_m1 PySem.F.slot_str_split PySem.F.type_str_split mt_split (pv 1) pe_str) rfl)
      (pss_cons (ps_fld (pv 0) (pv 2) rfl)
      (pss_one (ps_fld (pv 0) (pe_int) rfl)))), ?_⟩
    refine ⟨_, rfl, v, .ty "str", ty, .type "str", b, rfl, (by constructor), ht, hk, b, rfl, ?_⟩
    cases b with
    | false =>
      refine if_true_of rfl ⟨_, rfl, (by show 2 ≤ 1000; decide), fun a ha => badT_fin T.badT ha fun d H2 s2 hd h2 => k2 rfl d H2 s2 hd h2⟩
    | true =>
      obtain ⟨z, rfl, hz, k1⟩ := k1 rfl
      refine if_false_of rfl ?_
      refine ⟨_, rfl, ⟨z, rfl⟩, z, " ", rfl, rfl, rfl, hz, fun L hL => ?_⟩
      have sL := same_new (o := .lst ((Txt.split z " ").map V.str)) hL
      refine ⟨_, rfl, x, _, dx, _, rfl, sL _ _ hx, T.wcls, T.w_na _ (by simp), (by show 0 < 1000; decide), ?_⟩
      refine ⟨_, rfl, _, rfl, x, _, dx, _, rfl, upd_same, T.wcls, T.w_na _ (by simp), (by show 1 < 1000; decide), ?_⟩
      refine ⟨_, rfl, x, _, dx, _, rfl, upd_same, T.wcls, T.w_na _ (by simp), (by show 2 < 1000; decide), ?_⟩
      refine Eq.mpr (congrArg (Q V.non) ?_) (k1 L hL)
      funext y
      unfold upd
      split <;> rfl
def wdV : Option Str → V
  | some w => .str w
  | Option.none => .non
def spUpcoming (T : Txt K mg) : Sp := fun vs H Q _ => ∃ (x L : Addr) (ws : List Str) (i : Nat), vs = [.ref x] ∧ WdAt T H x L ws i ∧ Q (wdV ws[i]?) H
theorem ok_Words_upcoming (T : Txt K mg) : FnOk P w K mg base CX0 1 T.a_Words_upcoming T.fd_Words_upcoming ["self"] (spUpcoming T) := by
  refine T.F_Words_upcoming.ok sc_Words_upcoming (fun vs H Q E h => ?_) (fun cdv A outer s H vs Q E hr h => ?_)
  · obtain ⟨x, L, ws, i, rfl, _⟩ := h; rfl
  · obtain ⟨x, L, ws, i, rfl, ⟨dx, hx, hL, _⟩, k⟩ := h
    refine ⟨_, pss_one (ps_ret (pe_ifExp (pt_cmpR op_lt (pe_fld (pv 0) rfl) (pe_callB call_len_seq (by rfl) T.n_len (by decide +kernel) (pa_cons (pe_fld (pv 0) rfl) (pa_nil))) (nomark _)) (pe_ix ix_list (pe_fld (pv 0) rfl) (pe_fld (pv 0) rfl) (fun _ _ => rfl)) (pe_non))), ?_⟩
    refine ⟨_, rfl, x, _, dx, _, _, rfl, hx, T.wcls, T.w_na _ (by simp), rfl, ?_⟩
    refine ⟨_, rfl, x, _, dx, _, _, rfl, hx, T.wcls, T.w_na _ (by simp), rfl, L, _, rfl, .inl (SqL.of hL), _, _, rfl, rfl, _, rfl, ?_⟩
    refine ite2 (fun h1 => ?_) (fun h1 => ?_)
    · have h1 := of_decide_eq_true h1
      rw [List.length_map] at h1
      have lt : i < ws.length := by omega
      rw [List.getElem?_eq_getElem lt] at k
      refine ⟨_, rfl, x, _, dx, _, _, rfl, hx, T.wcls, T.w_na _ (by simp), rfl, _, rfl, x, _, dx, _, _, rfl, hx, T.wcls, T.w_na _ (by simp), rfl, L, _, _, _, rfl, rfl, SqL.of hL, atI_nat (by rw [List.getElem?_map, List.getElem?_eq_getElem lt]; rfl), k⟩
    · have h1 : ¬ ((i : Int) < ((ws.map V.str).length : Nat)) := fun q => h1 (decide_eq_true q)
      rw [List.length_map] at h1
      rw [List.getElem?_eq_none (by omega)] at k
      exact k
def spTake (T : Txt K mg) : List V → Hp → VK → XK → Prop := fun vs H Q E => ∃ (x L : Addr) (ws : List Str) (i : Nat) (a1 a2 : Str), vs = [.ref x, .str a1, .str a2] ∧ WdAt T H x L ws i ∧
  (∀ w, ws[i]? = some w → (w = a1 ∨ w = a2) → ∀ H', But x H H' → WdAt T H' x L ws (i + 1) → Q (.str w) H') ∧ ((∀ w, ws[i]? = some w → w ≠ a1 ∧ w ≠ a2) → ErrTx T.badT.C i H E)
/-- the instance with one word more taken -/
theorem WdAt.next {T : Txt K mg} {H : Hp} {x L dx : Addr} {ws : List Str} {i : Nat} {j : Int} (hj : j = ((i + 1 : Nat) : Int)) (hL : H L = some (.lst (ws.map V.str))) (ne : x ≠ L) : WdAt T (upd H x (.ins T.a_Words dx [("words", .ref L), ("line", .int 0), ("at", .int j)])) x L ws (i + 1) :=
  ⟨dx, by rw [upd_same, hj], by rw [upd_ne (Ne.symm ne)]; exact hL, ne⟩
theorem but_upd {H : Hp} {x : Addr} {o : HO} : But x H (upd H x o) := fun b u n e => by rw [upd_ne n]; exact e
theorem inV2 (o : Option Str) (a1 a2 : Str) : inV (wdV o) [.str a1, .str a2] = decide (o = some a1 ∨ o = some a2) := by
  cases o with
  | none => rfl
  | some w =>
    show (a1 == w || (a2 == w || false)) = _
    rw [Bool.or_false, Bool.eq_iff_iff]
    simp only [Bool.or_eq_true, beq_iff_eq, decide_eq_true_eq, Option.some.injEq]
    exact ⟨fun h => h.imp Eq.symm Eq.symm, fun h => h.imp Eq.symm Eq.symm⟩
theorem wdV_flat (o : Option Str) : flatV (wdV o) = true := by cases o <;> rfl
theorem ok_Words_take (T : Txt K mg) : FnR P w K mg base (L2.CX P w) 3 T.a_Words_take (spTake T) := by
  refine FnR.imp (star1_okX (sp := fun v rest H Q E => spTake T (v :: rest) H Q E) T.F_Words_take sc_Words_take (fun kV doc pm an cdv ct a rest => by cases rest <;> rfl) (fun cdv A outer s H a rest p H0 Q E hr h hl hp eH => ?_)) (fun vs H Q E h => ?_)
  · obtain ⟨x, L, ws, i, a1, a2, e, hW, k1, k2⟩ := h
    injection e with e1 e2
    subst e1
    subst e2
    refine ⟨_, pss_cons (ps_set (i := 2) sc_Words_take.nd rfl (Or.inl rfl) (pe_meth0 (pv 0) T.wcls T.w_upcoming (ok_Words_upcoming T) (hr.mono (by decide)) (b_Words_upcoming T) .nil pass0))
      (pss_cons (ps_if (pt_cmpR op_notIn_seq (pv 2) (pv 1) rfl) (pss_one (ps_raise rfl (takes_of rfl rfl rfl rfl) (pmk_badT T.badT (hr.mono (by decide)) rfl (pe_fld (pv 0) rfl) (pe_fld (pv 0) rfl)))) (pss_nil))
      (pss_cons (ps_fld (pv 0) (pe_op op_add (pe_fld (pv 0) rfl) (pe_int)) rfl)
      (pss_one (ps_ret (pv 2))))), ?_⟩
    have s0 : Same H0 H := eH ▸ same_new hp
    have hp' : H p = some (.tup [.str a1, .str a2]) := by rw [eH, upd_same]
    obtain ⟨dx, hx, hL, ne⟩ := hW.same s0
    refine ⟨_, rfl, x, dx, _, rfl, hx, rfl, x, L, ws, i, rfl, ⟨dx, hx, hL, ne⟩, ?_⟩
    refine ⟨_, rfl, _, rfl, p, _, rfl, .inr (SqT.of hp'), wdV_flat _, rfl, _, rfl, ?_⟩
    by_cases hm : ws[i]? = some a1 ∨ ws[i]? = some a2
    · refine if_false_of (by show (!inV (wdV ws[i]?) [.str a1, .str a2]) = false; rw [inV2, decide_eq_true hm]; rfl) ?_
      refine ⟨_, rfl, x, _, dx, _, _, rfl, hx, T.wcls, T.w_na _ (by simp), rfl, _, _, rfl, rfl, _, rfl, x, _, dx, _, rfl, hx, T.wcls, T.w_na _ (by simp), (by show 3 < 1000; decide), ?_⟩
      refine ⟨_, rfl, ?_⟩
      have fin : ∀ w, ws[i]? = some w → (w = a1 ∨ w = a2) → Q (wdV ws[i]?) (upd H x (.ins T.a_Words dx [("words", .ref L), ("line", .int 0), ("at", .int ((i : Nat) + 1))])) := fun w e1 e2 => by
        rw [e1]
        exact k1 w e1 e2 _ (fun b o n e => but_upd b o n (s0 _ _ e)) (WdAt.next (by omega) hL ne)
      rcases hm with hm | hm
      · exact fin a1 hm (.inl rfl)
      · exact fin a2 hm (.inr rfl)
    · refine if_true_of (by show (!inV (wdV ws[i]?) [.str a1, .str a2]) = true; rw [inV2, decide_eq_false hm]; rfl) ?_
      refine ⟨_, rfl, x, _, dx, _, _, rfl, hx, T.wcls, T.w_na _ (by simp), rfl, _, rfl, x, _, dx, _, _, rfl, hx, T.wcls, T.w_na _ (by simp), rfl, ?_⟩
      refine tNil_to ⟨(by show 2 ≤ 1000; decide), fun a ha => badT_fin T.badT ha fun d H2 s2 hd h2 => k2 (fun w e => ⟨fun q => hm (.inl (q ▸ e)), fun q => hm (.inr (q ▸ e))⟩) d H2 (s0.trans s2) ?_ h2⟩
      match q : H0 d with
      | Option.none => rfl
      | some o => rw [s0 _ _ q] at hd; cases hd
  · obtain ⟨x, L, ws, i, a1, a2, rfl, q⟩ := h
    exact ⟨_, _, rfl, (by show 2 ≤ sizeLine; decide), x, L, ws, i, a1, a2, rfl, q⟩

def spTakeN (T : Txt K mg) : Sp := fun vs H Q E => ∃ (x L : Addr) (ws : List Str) (i : Nat) (lo : Int), vs = [.ref x, .int lo, .int 1000000000000] ∧ WdAt T H x L ws i ∧ (∀ w ∈ ws, w.length ≤ sizeLine) ∧
  (∀ n, NX.tk ws i lo = some n → ∀ H', But x H H' → WdAt T H' x L ws (i + 1) → Q (.int n) H') ∧ (NX.tk ws i lo = Option.none → ErrTx T.badT.C i H E)
theorem optI_non (o : Option Int) : decide (optI o = .non) = o.isNone := by cases o <;> rfl
theorem ok_Words_take_number (T : Txt K mg) : FnOk P w K mg base (L2.CX P w) 3 T.a_Words_take_number T.fd_Words_take_number ["self", "low", "high"] (spTakeN T) := by
  refine T.F_Words_take_number.okX sc_Words_take_number (fun vs H Q E h => ?_) (fun cdv A outer s H vs Q E hr h => ?_)
  · obtain ⟨x, L, ws, i, lo, rfl, _⟩ := h; rfl
  · obtain ⟨x, L, ws, i, lo, rfl, hW, hlen, k1, k2⟩ := h
    obtain ⟨dx, hx, hL, ne⟩ := id hW
    refine ⟨_, pss_cons (ps_set (i := 3) sc_Words_take_number.nd rfl (Or.inl rfl) (pe_meth0 (pv 0) T.wcls T.w_upcoming (ok_Words_upcoming T) (hr.mono (by decide)) (b_Words_upcoming T) .nil pass0))
      (pss_cons (ps_set (i := 4) sc_Words_take_number.nd rfl (Or.inl rfl) (pe_ifExp (pt_cmpR op_isN (pv 3) (pe_non) (nomark _)) (pe_non) (pe_call (ok_number_in T) (hr.mono (by decide)) rfl T.m_number_in T.F_number_in.kp (b_number_in T) .nil pass0 (pa_cons (pv 3) (pa_nil)))))
      (pss_cons (ps_if (PW.pt (pw_or (pt_cmpR op_isN (pv 4) (pe_non) (nomark _)) (pw_or1 (pt_not (pt_chain op_le op_le (pv 1) (pv 4) (pv 2)))))) (pss_one (ps_raise rfl (takes_of rfl rfl rfl rfl) (pmk_badT T.badT (hr.mono (by decide)) rfl (pe_fld (pv 0) rfl) (pe_fld (pv 0) rfl)))) (pss_nil))
      (pss_cons (ps_fld (pv 0) (pe_op op_add (pe_fld (pv 0) rfl) (pe_int)) rfl)
      (pss_one (ps_ret (pv 4)))))), ?_⟩
    refine ⟨_, rfl, x, dx, _, rfl, hx, rfl, x, L, ws, i, rfl, hW, ?_⟩
    refine ⟨_, rfl, ?_⟩
    cases e : ws[i]? with
    | none =>
      have htk : NX.tk ws i lo = Option.none := by unfold NX.tk; rw [e]; rfl
      refine ⟨rfl, true, rfl, if_true_of rfl ?_⟩
      refine ⟨_, rfl, rfl, true, rfl, if_true_of rfl (if_true_of rfl ?_)⟩
      refine ⟨_, rfl, x, _, dx, _, _, rfl, hx, T.wcls, T.w_na _ (by simp), rfl, _, rfl, x, _, dx, _, _, rfl, hx, T.wcls, T.w_na _ (by simp), rfl, ?_⟩
      exact tNil_to ⟨(by show 2 ≤ 1000; decide), fun a ha => badT_fin T.badT ha (k2 (htk))⟩
    | some wd =>
      have hb : NX.tk ws i lo = NX.tkV lo wd := by unfold NX.tk; rw [e]; rfl
      refine ⟨rfl, false, rfl, if_false_of rfl ?_⟩
      refine ⟨_, rfl, wd, rfl, hlen wd (List.mem_of_getElem? e), ?_⟩
      cases g : NX.numG wd with
      | none =>
        have htk : NX.tk ws i lo = Option.none := by rw [hb]; unfold NX.tkV; rw [g]
        refine ⟨_, rfl, rfl, true, rfl, if_true_of rfl (if_true_of rfl ?_)⟩
        refine ⟨_, rfl, x, _, dx, _, _, rfl, hx, T.wcls, T.w_na _ (by simp), rfl, _, rfl, x, _, dx, _, _, rfl, hx, T.wcls, T.w_na _ (by simp), rfl, ?_⟩
        exact tNil_to ⟨(by show 2 ≤ 1000; decide), fun a ha => badT_fin T.badT ha (k2 (htk))⟩
      | some m =>
        refine ⟨_, rfl, rfl, false, rfl, if_false_of rfl ?_⟩
        refine ⟨_, rfl, _, rfl, _, _, rfl, rfl, _, rfl, ?_⟩
        have tkE : NX.tk ws i lo = if lo ≤ m ∧ m ≤ 1000000000000 then some m else Option.none := by rw [hb]; unfold NX.tkV; rw [g]
        refine ite2 (fun h1 => ?_) (fun h1 => ?_)
        · have h1 := of_decide_eq_true h1
          refine ⟨_, rfl, _, _, rfl, rfl, _, rfl, ?_⟩
          by_cases h2 : m ≤ 1000000000000
          · refine if_false_of (by rw [decide_eq_true h2]; rfl) ?_
            have htk : NX.tk ws i lo = some m := by rw [tkE, if_pos ⟨h1, h2⟩]
            refine ⟨_, rfl, x, _, dx, _, _, rfl, hx, T.wcls, T.w_na _ (by simp), rfl, _, _, rfl, rfl, _, rfl, x, _, dx, _, rfl, hx, T.wcls, T.w_na _ (by simp), (by show 3 < 1000; decide), ?_⟩
            exact ⟨_, rfl, k1 m htk _ but_upd (WdAt.next (by omega) hL ne)⟩
          · refine if_true_of (by rw [decide_eq_false h2]; rfl) ?_
            have htk : NX.tk ws i lo = Option.none := by rw [tkE, if_neg (fun z => h2 z.2)]
            refine ⟨_, rfl, x, _, dx, _, _, rfl, hx, T.wcls, T.w_na _ (by simp), rfl, _, rfl, x, _, dx, _, _, rfl, hx, T.wcls, T.w_na _ (by simp), rfl, ?_⟩
            exact tNil_to ⟨(by show 2 ≤ 1000; decide), fun a ha => badT_fin T.badT ha (k2 (htk))⟩
        · have h1 : ¬ lo ≤ m := fun q => h1 (decide_eq_true q)
          have htk : NX.tk ws i lo = Option.none := by rw [tkE, if_neg (fun z => h1 z.1)]
          refine ⟨false, rfl, if_true_of rfl ?_⟩
          refine ⟨_, rfl, x, _, dx, _, _, rfl, hx, T.wcls, T.w_na _ (by simp), rfl, _, rfl, x, _, dx, _, _, rfl, hx, T.wcls, T.w_na _ (by simp), rfl, ?_⟩
          exact tNil_to ⟨(by show 2 ≤ 1000; decide), fun a ha => badT_fin T.badT ha (k2 (htk))⟩
def spFinish (T : Txt K mg) : Sp := fun vs H Q E => ∃ (x L : Addr) (ws : List Str) (i : Nat), vs = [.ref x] ∧ WdAt T H x L ws i ∧ (ws.length ≤ i → Q .non H) ∧ (i < ws.length → ErrTx T.badT.C i H E)
theorem ok_Words_finish (T : Txt K mg) : FnOk P w K mg base (L2.CX P w) 3 T.a_Words_finish T.fd_Words_finish ["self"] (spFinish T) := by
  refine T.F_Words_finish.okX sc_Words_finish (fun vs H Q E h => ?_) (fun cdv A outer s H vs Q E hr h => ?_)
  · obtain ⟨x, L, ws, i, rfl, _⟩ := h; rfl
  · obtain ⟨x, L, ws, i, rfl, ⟨dx, hx, hL, ne⟩, k1, k2⟩ := h
    refine ⟨_, pss_one (ps_if (pt_cmpR op_lt (pe_fld (pv 0) rfl) (pe_callB call_len_seq (by rfl) T.n_len (by decide +kernel) (pa_cons (pe_fld (pv 0) rfl) (pa_nil))) (nomark _)) (pss_one (ps_raise rfl (takes_of rfl rfl rfl rfl) (pmk_badT T.badT (hr.mono (by decide)) rfl (pe_fld (pv 0) rfl) (pe_fld (pv 0) rfl)))) (pss_nil)), ?_⟩
    refine ⟨_, rfl, x, _, dx, _, _, rfl, hx, T.wcls, T.w_na _ (by simp), rfl, _, rfl, x, _, dx, _, _, rfl, hx, T.wcls, T.w_na _ (by simp), rfl, L, _, rfl, .inl (SqL.of hL), _, _, rfl, rfl, _, rfl, ?_⟩
    refine ite2 (fun h1 => ?_) (fun h1 => ?_)
    · have h1 := of_decide_eq_true h1
      rw [List.length_map] at h1
      refine ⟨_, rfl, x, _, dx, _, _, rfl, hx, T.wcls, T.w_na _ (by simp), rfl, _, rfl, x, _, dx, _, _, rfl, hx, T.wcls, T.w_na _ (by simp), rfl, ?_⟩
      exact tNil_to ⟨(by show 2 ≤ 1000; decide), fun a ha => badT_fin T.badT ha (k2 (by omega))⟩
    · have h1 : ¬ ((i : Int) < ((ws.map V.str).length : Nat)) := fun q => h1 (decide_eq_true q)
      rw [List.length_map] at h1
      exact k1 (by omega)

/-- what is read off a wheel of the class at C -/
structure WPr (T : Txt K mg) (C : Addr) (tr : Bool) : Prop where
  w : WCls K C
  con : ∃ u, Con K C "TRUSTED" (.bl tr) u
/-- what the text has of one class of wheels -/
structure WhC (T : Txt K mg) (C f : Addr) (tr : Bool) : Prop where
  w : WPr T C tr
  ty : ∀ (H : Hp) (a dx : Addr) (fs : List (Str × V)), H a = some (.ins C dx fs) → TyX K H (.ref a) (.ref C)
  wh : PySem.W.kitOne K (.ref C) (.ref T.a_Wheel) = some true
  gr : PySem.W.kitOne K (.ref C) (.ref T.a_Grid) = some tr
  st : PySem.W.kitOne K (.ref C) (.type "str") = some false
  mkr : Mk K C f
  eq : PySem.W.findIn K (.ref C) "__eq__" = some (some (.ref T.a_Wheel_eq))
  ne : PySem.W.findIn K (.ref C) "__ne__" = some (some (.builtin "object.__ne__"))
  mro : PySem.W.mroIn K C (.type "object") = some true
  str : PySem.W.findIn K (.ref C) "__str__" = some (some (.ref T.a_Wheel_str))
  wider : Meth K C "wider" T.a_Wheel_wider
  mul : ∀ t ∈ (["int", "NoneType", "bool", "str", "list"] : List String), OwnBinT K C T.a_Wheel_mul .Mult t
  mulI : OwnBin K C T.a_Wheel_mul .Mult
  imul : mroNone K C (PySem.dunderI Operator.Mult.info.2)
/-- what it has of the five -/
structure Whl (T : Txt K mg) : Prop where
  W : WhC T T.a_Wheel T.a_Wheel_init false
  E : WhC T T.a_Even T.a_Even_init false
  X : WhC T T.a_Exact T.a_Exact_init false
  L : WhC T T.a_Lagging T.a_Lagging_init false
  G : WhC T T.a_Grid T.a_Grid_init true
  sE : SupAt K T.a_Even T.a_Even T.a_Wheel_init "__init__"
  sX : SupAt K T.a_Exact T.a_Exact T.a_Wheel_init "__init__"
  sL : SupAt K T.a_Lagging T.a_Lagging T.a_Wheel_init "__init__"
  sG : SupAt K T.a_Grid T.a_Grid T.a_Wheel_init "__init__"
  fn : PySem.W.isFn K (.ref T.a_Wheel_eq) = true
  fnS : PySem.W.isFn K (.ref T.a_Wheel_str) = true
  /-- of two classes the right one is not asked first, or it is below the left one -/
  ord : ∀ C ∈ [T.a_Wheel, T.a_Even, T.a_Exact, T.a_Lagging, T.a_Grid], ∀ C' ∈ [T.a_Wheel, T.a_Even, T.a_Exact, T.a_Lagging, T.a_Grid],
    PySem.W.notFirst K C (.ref C') = true ∨ (PySem.W.subIn K (.ref C') (.ref C) = some true ∧ (Value.ref C != Value.ref C') = true)
/-- at y a wheel with these parts, of one of the classes -/
def WhE (T : Txt K mg) (H : Hp) (y : Addr) (tr : Bool) (p b a : Int) : Prop := ∃ C f, WhC T C f tr ∧ C ∈ [T.a_Wheel, T.a_Even, T.a_Exact, T.a_Lagging, T.a_Grid] ∧ WhAt H C y p b a
theorem WhE.same {T : Txt K mg} {H H' : Hp} {y : Addr} {tr : Bool} {p b a : Int} (s : Same H H') (h : WhE T H y tr p b a) : WhE T H' y tr p b a := by
  obtain ⟨C, f, h1, h2, h3⟩ := h
  exact ⟨C, f, h1, h2, h3.same s⟩
theorem But.refl (x : Addr) (H : Hp) : But x H H := fun _ _ _ e => e
theorem But.trans {x : Addr} {H H1 H2 : Hp} (s : But x H H1) (t : But x H1 H2) : But x H H2 := fun b o n e => t b o n (s b o n e)
theorem But.of {x : Addr} {H H1 : Hp} (s : Same H H1) : But x H H1 := fun b o _ e => s b o e
theorem mk_same {H : Hp} {x dx C : Addr} {fs : List (Str × V)} (hx : H x = Option.none) (hdx : H dx = Option.none) : Same H (upd (upd (upd H dx (.own x)) x (.ins C dx [])) x (.ins C dx fs)) := fun b o e => by
  rw [upd_ne (ne_of_none e hx), upd_ne (ne_of_none e hx), upd_ne (ne_of_none e hdx)]
  exact e
section
variable {H : Hp} {x dx : Addr} {Qv : VK} {E : XK} {p b a : Int}
theorem okW (T : Txt K mg) (W : Whl T) (hx : H x = Option.none) (hdx : H dx = Option.none) (hp : 2 ≤ p ∧ p ≤ 1000000000000) (hb : 0 ≤ b ∧ b ≤ 1000000000000) (ha : 0 ≤ a ∧ a ≤ 1000000000000) (k : ∀ H', Same H H' → WhAt H' T.a_Wheel x p b a → Qv .non H') :
    spWheelInit K T.bad.C [.ref x, .int p, .int b, .int a] (upd (upd H dx (.own x)) x (.ins T.a_Wheel dx [])) Qv E := by
  refine ⟨x, T.a_Wheel, dx, _, _, _, _, _, _, rfl, W.W.w.w, upd_same, .int _, .int _, .int _, fun z => absurd ((decide_eq_true hp).symm.trans z) (by decide), fun _ z => absurd ((decide_eq_true hb).symm.trans z) (by decide), fun _ _ z => absurd ((decide_eq_true ha).symm.trans z) (by decide), ?_⟩
  intro i j l e1 e2 e3 _ _ _ _ _ _
  cases e1; cases e2; cases e3
  exact k _ (mk_same hx hdx) ⟨dx, upd_same⟩
theorem okE (T : Txt K mg) (W : Whl T) (hx : H x = Option.none) (hdx : H dx = Option.none) (hp : 2 ≤ p ∧ p ≤ 1000000000000) (hb : 0 ≤ b ∧ b ≤ 1000000000000) (k : ∀ H', Same H H' → WhAt H' T.a_Even x p b b → Qv .non H') :
    spEvenInit K T.bad.C T.a_Even T.a_Wheel_init [.ref x, .int p, .int b] (upd (upd H dx (.own x)) x (.ins T.a_Even dx [])) Qv E := by
  refine ⟨x, T.a_Even, dx, _, _, _, _, rfl, W.E.w.w, W.sE, upd_same, .int _, .int _, fun z => absurd ((decide_eq_true hp).symm.trans z) (by decide), fun _ z => absurd ((decide_eq_true hb).symm.trans z) (by decide), ?_⟩
  intro i j e1 e2 _ _ _ _
  cases e1; cases e2
  exact k _ (mk_same hx hdx) ⟨dx, upd_same⟩
theorem okL (T : Txt K mg) (W : Whl T) (hx : H x = Option.none) (hdx : H dx = Option.none) (hp : 2 ≤ p ∧ p ≤ 1000000000000) (hb : 0 ≤ b ∧ b ≤ 1000000000000) (k : ∀ H', Same H H' → WhAt H' T.a_Lagging x p b 0 → Qv .non H') :
    spLaggingInit K T.bad.C T.a_Lagging T.a_Wheel_init [.ref x, .int p, .int b] (upd (upd H dx (.own x)) x (.ins T.a_Lagging dx [])) Qv E := by
  refine ⟨x, T.a_Lagging, dx, _, _, _, _, rfl, W.L.w.w, W.sL, upd_same, .int _, .int _, fun z => absurd ((decide_eq_true hp).symm.trans z) (by decide), fun _ z => absurd ((decide_eq_true hb).symm.trans z) (by decide), ?_⟩
  intro i j e1 e2 _ _ _ _
  cases e1; cases e2
  exact k _ (mk_same hx hdx) ⟨dx, upd_same⟩
theorem okX (T : Txt K mg) (W : Whl T) (hx : H x = Option.none) (hdx : H dx = Option.none) (hp : 2 ≤ p ∧ p ≤ 1000000000000) (k : ∀ H', Same H H' → WhAt H' T.a_Exact x p 0 0 → Qv .non H') :
    spOneInit K T.bad.C T.a_Exact T.a_Wheel_init [.ref x, .int p] (upd (upd H dx (.own x)) x (.ins T.a_Exact dx [])) Qv E := by
  refine ⟨x, T.a_Exact, dx, _, _, rfl, W.X.w.w, W.sX, upd_same, .int _, fun z => absurd ((decide_eq_true hp).symm.trans z) (by decide), ?_⟩
  intro i e1 _ _
  cases e1
  exact k _ (mk_same hx hdx) ⟨dx, upd_same⟩
theorem okG (T : Txt K mg) (W : Whl T) (hx : H x = Option.none) (hdx : H dx = Option.none) (hp : 2 ≤ p ∧ p ≤ 1000000000000) (k : ∀ H', Same H H' → WhAt H' T.a_Grid x p 0 0 → Qv .non H') :
    spOneInit K T.bad.C T.a_Grid T.a_Wheel_init [.ref x, .int p] (upd (upd H dx (.own x)) x (.ins T.a_Grid dx [])) Qv E := by
  refine ⟨x, T.a_Grid, dx, _, _, rfl, W.G.w.w, W.sG, upd_same, .int _, fun z => absurd ((decide_eq_true hp).symm.trans z) (by decide), ?_⟩
  intro i e1 _ _
  cases e1
  exact k _ (mk_same hx hdx) ⟨dx, upd_same⟩
end
/-- at the end: what is made of the words, or the first word that cannot stand -/
def spTakeWheel (T : Txt K mg) : Sp := fun vs H Q E => ∃ (x L : Addr) (ws : List Str), vs = [.ref x] ∧ WdAt T H x L ws 0 ∧ (∀ w ∈ ws, w.length ≤ sizeLine) ∧
  (∀ (tr : Bool) (p b a : Int) (n : Nat) (y : Addr) (H' : Hp), NX.headW ws = .ok (tr, p, b, a, n) → But x H H' → WdAt T H' x L ws n → WhE T H' y tr p b a → y ≠ x → Q (.ref y) H') ∧
  (∀ i, NX.headW ws = .error i → ∀ (d : Addr) (H2 : Hp), But x H H2 → H2 d = some (.xd [("word", .int (i : Nat)), ("line", .int 0)]) → E (.ref T.badT.C) (some d) H2)
theorem ok_take_wheel (HP : PrF lawFile P) (T : Txt K mg) (W : Whl T) : FnOk P w K mg base (L2.CX P w) 8 T.a_take_wheel T.fd_take_wheel ["words"] (spTakeWheel T) := by
  refine T.F_take_wheel.okX sc_take_wheel (fun vs H Q E h => ?_) (fun cdv A outer s H vs Q E hr h => ?_)
  · obtain ⟨x, L, ws, rfl, _⟩ := h; rfl
  · obtain ⟨x, L, ws, rfl, hW, hlen, k1, k2⟩ := h
    obtain ⟨dx, hx, hL, ne⟩ := id hW
    refine ⟨_, pss_cons (ps_if (pt_cmpR op_eq (pe_methR (pv 0) T.wcls T.w_take (ok_Words_take T) (hr.mono (by decide)) (passes_call (takes_of rfl rfl rfl rfl) (fun _ _ _ _ h => h)) (pa_cons (pe_str) (pa_cons (pe_str) (pa_nil)))) (pe_str) (nomark _)) (pss_one (ps_ret (pe_mkR W.G.mkr ((ok_Grid_init HP T).raw (b_Grid_init T) .nil) (hr.mono (by decide)) (passes_call (takes_of rfl rfl rfl rfl) (fun _ _ _ _ h => h)) rfl T.m_Grid (pa_cons (pe_meth (pv 0) T.wcls T.w_take_number (ok_Words_take_number T) (hr.mono (by decide)) (b_Words_take_number T) .nil (passes_call (takes_of rfl rfl rfl rfl) (fun _ _ _ _ h => h)) (pa_cons (pe_int) (pa_cons (pe_glob (v := .int 1000000000000) rfl T.m_MP T.r_MP) (pa_nil)))) (pa_nil))))) (pss_nil))
      (pss_cons (ps_set (i := 1) sc_take_wheel.nd rfl (Or.inl rfl) (pe_meth (pv 0) T.wcls T.w_take_number (ok_Words_take_number T) (hr.mono (by decide)) (b_Words_take_number T) .nil (passes_call (takes_of rfl rfl rfl rfl) (fun _ _ _ _ h => h)) (pa_cons (pe_int) (pa_cons (pe_glob (v := .int 1000000000000) rfl T.m_MP T.r_MP) (pa_nil)))))
      (pss_cons (ps_set (i := 2) sc_take_wheel.nd rfl (Or.inl rfl) (pe_meth (pv 0) T.wcls T.w_take_number (ok_Words_take_number T) (hr.mono (by decide)) (b_Words_take_number T) .nil (passes_call (takes_of rfl rfl rfl rfl) (fun _ _ _ _ h => h)) (pa_cons (pe_int) (pa_cons (pe_glob (v := .int 1000000000000) rfl T.m_MP T.r_MP) (pa_nil)))))
      (pss_one (ps_ret (pe_mkR W.W.mkr ((ok_Wheel_init T).raw (b_Wheel_init T) .nil) (hr.mono (by decide)) (passes_call (takes_of rfl rfl rfl rfl) (fun _ _ _ _ h => h)) rfl T.m_Wheel (pa_cons (pv 1) (pa_cons (pv 2) (pa_cons (pe_meth (pv 0) T.wcls T.w_take_number (ok_Words_take_number T) (hr.mono (by decide)) (b_Words_take_number T) .nil (passes_call (takes_of rfl rfl rfl rfl) (fun _ _ _ _ h => h)) (pa_cons (pe_int) (pa_cons (pe_glob (v := .int 1000000000000) rfl T.m_MP T.r_MP) (pa_nil)))) (pa_nil))))))))), ?_⟩
    have wdx : ∀ {G : Hp} {n : Nat}, WdAt T G x L ws n → ∃ d, G x = some (.ins T.a_Words d [("words", .ref L), ("line", .int 0), ("at", .int (n : Nat))]) := fun h => h.elim fun d h => ⟨d, h.1⟩
    refine ⟨_, rfl, x, dx, _, rfl, hx, rfl, x, L, ws, 0, "wheel", "grid", rfl, hW, fun w e hw H1 b1 W1 => ?_, fun hno => ?_⟩
    · obtain ⟨d1, x1⟩ := wdx W1
      refine ⟨rfl, _, rfl, ?_⟩
      by_cases hg : w = "grid"
      · subst hg
        refine if_true_of (decide_eq_true rfl) ?_
        refine ⟨_, rfl, x, d1, _, rfl, x1, rfl, x, L, ws, 1, 2, rfl, W1, hlen, fun p htk H2 b2 W2 => ?_, fun htk => ?_⟩
        · obtain ⟨d2, x2⟩ := wdx W2
          obtain ⟨_, p1, p2⟩ := NX.tk_eq htk
          refine tNil_to fun y dy hy hdy _ => okG T W hy hdy ⟨p1, p2⟩ fun H3 s3 w3 => ⟨rfl, ?_⟩
          exact k1 true p 0 0 2 y H3 (by unfold NX.headW; rw [if_pos e, htk]) ((b1.trans b2).trans (But.of s3)) (W2.same s3) ⟨_, _, W.G, by simp, w3⟩ (fun z => by rw [z, x2] at hy; cases hy)
        · exact fun d H2 s2 hd h2 => k2 1 (by unfold NX.headW; rw [if_pos e, htk]) d H2 (b1.trans (But.of s2)) h2
      · have hwl : w = "wheel" := hw.resolve_right hg
        subst hwl
        have eg : ¬ (ws[0]? = some ("grid" : Str)) := by rw [e]; decide
        refine if_false_of (by decide) ?_
        have ew : ∀ r, (match NX.tk ws 1 2 with
            | Option.none => .error 1
            | some p => match NX.tk ws 2 0 with
              | Option.none => .error 2
              | some b => match NX.tk ws 3 0 with
                | Option.none => .error 3
                | some a => .ok (false, p, b, a, 4)) = r → NX.headW ws = r := fun r z => by
          unfold NX.headW
          rw [if_neg eg, if_pos e]
          exact z
        refine ⟨_, rfl, x, d1, _, rfl, x1, rfl, x, L, ws, 1, 2, rfl, W1, hlen, fun p tp H2 b2 W2 => ?_, fun tp => ?_⟩
        · obtain ⟨_, p1, p2⟩ := NX.tk_eq tp
          obtain ⟨d2, x2⟩ := wdx W2
          have b2 := b1.trans b2
          refine ⟨_, rfl, x, d2, _, rfl, x2, rfl, x, L, ws, 2, 0, rfl, W2, hlen, fun b tb H3 b3 W3 => ?_, fun tb => ?_⟩
          · obtain ⟨_, q1, q2⟩ := NX.tk_eq tb
            obtain ⟨d3, x3⟩ := wdx W3
            have b3 := b2.trans b3
            refine ⟨_, rfl, _, rfl, _, rfl, x, d3, _, rfl, x3, rfl, x, L, ws, 3, 0, rfl, W3, hlen, fun a ta H4 b4 W4 => ?_, fun ta => ?_⟩
            · obtain ⟨_, r1, r2⟩ := NX.tk_eq ta
              obtain ⟨d4, x4⟩ := wdx W4
              have b4 := b3.trans b4
              refine tNil_to fun y dy hy hdy _ => okW T W hy hdy ⟨p1, p2⟩ ⟨q1, q2⟩ ⟨r1, r2⟩ fun H5 s5 w5 => ⟨rfl, ?_⟩
              exact k1 false p b a 4 y H5 (ew _ (by rw [tp]; simp only; rw [tb]; simp only; rw [ta])) (b4.trans (But.of s5)) (W4.same s5) ⟨_, _, W.W, by simp, w5⟩ (fun z => by rw [z, x4] at hy; cases hy)
            · exact fun d H2 s2 hd h2 => k2 3 (ew _ (by rw [tp]; simp only; rw [tb]; simp only; rw [ta])) d H2 (b3.trans (But.of s2)) h2
          · exact fun d H2 s2 hd h2 => k2 2 (ew _ (by rw [tp]; simp only; rw [tb])) d H2 (b2.trans (But.of s2)) h2
        · exact fun d H2 s2 hd h2 => k2 1 (ew _ (by rw [tp])) d H2 (b1.trans (But.of s2)) h2
    · refine fun d H2 s2 hd h2 => k2 0 ?_ d H2 (But.of s2) h2
      unfold NX.headW
      rw [if_neg (fun z => (hno _ z).2 rfl), if_neg (fun z => (hno _ z).1 rfl)]

theorem b_Words_init (T : Txt K mg) : ∃ ds, Vals (([V.int 0] : List V).drop 0) ds ∧ Binds K T.fd_Words_init ["self", "text", "line"] ds := by
  refine T.F_Words_init.binds1 2 0 (by simp) rfl fun TT kV doc pm an cdv ct us its h1 h2 => ?_
  match us, its, h1, h2 with
  | [u1, u2], [i1], _, _ => exact ⟨_, rfl, rfl⟩
def ErrTS (C : Addr) (i : Nat) (H : Hp) (E : XK) : Prop := ∀ (d : Addr) (H2 : Hp), Same H H2 → H2 d = some (.xd [("word", .int (i : Nat)), ("line", .int 0)]) → E (.ref C) (some d) H2
def spRead (T : Txt K mg) : Sp := fun vs H Q E => ∃ (v : V) (ty : Value) (b : Bool), vs = [v] ∧ (∀ H', Same H H' → TyX K H' v ty) ∧ PySem.W.kitOne K ty (.type "str") = some b ∧
  (b = true → ∃ (z : Str) (ws : List Str), v = .str z ∧ z.length + 2 ≤ sizeLine ∧ Txt.split z " " = ws ∧ (∀ w ∈ ws, w.length ≤ sizeLine) ∧
    (∀ (tr : Bool) (p b a : Int) (y : Addr) (H' : Hp), NX.readW ws = .ok (tr, p, b, a) → Same H H' → WhE T H' y tr p b a → Q (.ref y) H') ∧ (∀ i, NX.readW ws = .error i → ErrTS T.badT.C i H E)) ∧
  (b = false → ErrTS T.badT.C 0 H E)
theorem ok_Wheel_read (HP : PrF lawFile P) (T : Txt K mg) (W : Whl T) : FnOk P w K mg base (L2.CX P w) 9 T.a_Wheel_read T.fd_Wheel_read ["text"] (spRead T) := by
  obtain ⟨ds, vd, bd⟩ := b_Words_init T
  have DW := (ok_Words_init (P := P) (w := w) (base := base) T).raw bd vd
  refine T.F_Wheel_read.okX sc_Wheel_read (fun vs H Q E h => ?_) (fun cdv A outer s H vs Q E hr h => ?_)
  · obtain ⟨v, ty, b, rfl, _⟩ := h; rfl
  · obtain ⟨v, ty, b, rfl, ht, hk, k1, k2⟩ := h
    refine ⟨_, pss_cons (ps_set (i := 1) sc_Wheel_read.nd rfl (Or.inl rfl) (pe_mkR T.wmk DW (hr.mono (by decide)) (passes_call (takes_of rfl rfl rfl rfl) (fun _ _ _ _ h => h)) rfl T.m_Words (pa_cons (pv 0) pa_nil)))
      (pss_cons (ps_set (i := 2) sc_Wheel_read.nd rfl (Or.inl rfl) (pe_call (ok_take_wheel HP T W) (hr.mono (by decide)) rfl T.m_take_wheel T.F_take_wheel.kp (b_take_wheel T) .nil (passes_call (takes_of rfl rfl rfl rfl) (fun _ _ _ _ h => h)) (pa_cons (pv 1) (pa_nil))))
      (pss_cons (ps_expr (pe_meth0 (pv 1) T.wcls T.w_finish (ok_Words_finish T) (hr.mono (by decide)) (b_Words_finish T) .nil (passes_call (takes_of rfl rfl rfl rfl) (fun _ _ _ _ h => h))))
      (pss_one (ps_ret (pv 2))))), ?_⟩
    refine ⟨_, rfl, fun x dx hx hdx ne => ?_⟩
    have sx : Same H (upd (upd H dx (.own x)) x (.ins T.a_Words dx [])) := fun c o e => by
      rw [upd_ne (ne_of_none e hx), upd_ne (ne_of_none e hdx)]
      exact e
    have xx : (upd (upd H dx (.own x)) x (.ins T.a_Words dx [])) x = some (.ins T.a_Words dx []) := upd_same
    refine ⟨x, dx, v, ty, b, rfl, xx, ht _ sx, hk, fun hb => ?_, fun hb d H2 s2 hd h2 => k2 hb d H2 (sx.trans s2) h2⟩
    obtain ⟨z, ws, rfl, hz, hs, hlen, q1, q2⟩ := k1 hb
    refine ⟨z, rfl, hz, fun L hL => ⟨rfl, ?_⟩⟩
    rw [hs]
    have xL : x ≠ L := ne_of_none xx hL
    have bx : But x H (upd (upd (upd (upd H dx (.own x)) x (.ins T.a_Words dx [])) L (.lst (ws.map V.str))) x (.ins T.a_Words dx [("words", .ref L), ("line", .int 0), ("at", .int 0)])) := fun c o n e => by
      rw [upd_ne n, upd_ne (ne_of_none (sx _ _ e) hL)]
      exact sx _ _ e
    have W0 : WdAt T (upd (upd (upd (upd H dx (.own x)) x (.ins T.a_Words dx [])) L (.lst (ws.map V.str))) x (.ins T.a_Words dx [("words", .ref L), ("line", .int 0), ("at", .int 0)])) x L ws 0 := ⟨dx, upd_same, by rw [upd_ne (Ne.symm xL), upd_same], xL⟩
    generalize upd (upd (upd (upd H dx (.own x)) x (.ins T.a_Words dx [])) L (.lst (ws.map V.str))) x (.ins T.a_Words dx [("words", .ref L), ("line", .int 0), ("at", .int 0)]) = G at bx W0 ⊢
    have toS : ∀ {G2 : Hp}, But x H G2 → Same H G2 := fun h c o e => h c o (ne_of_none e hx) e
    refine ⟨_, rfl, x, L, ws, rfl, W0, hlen, fun tr p b2 a n y H3 hh b3 W3 w3 ny => ?_, fun i hh d H3 b3 h3 => ?_⟩
    · obtain ⟨d3, x3, l3, _⟩ := id W3
      have rd := NX.readW_head ws
      rw [hh] at rd
      simp only at rd
      refine ⟨_, rfl, x, d3, _, rfl, x3, rfl, x, L, ws, n, rfl, W3, fun hn => ?_, fun hn d H4 s4 hd h4 => ?_⟩
      · exact ⟨_, rfl, q1 tr p b2 a y H3 (by rw [rd, if_neg (by omega)]) (toS (bx.trans b3)) w3⟩
      · exact q2 n (by rw [rd, if_pos hn]) d H4 (toS ((bx.trans b3).trans (But.of s4))) h4
    · exact q2 i (by rw [NX.readW_head, hh]) d H3 (toS (bx.trans b3)) h3

def ErrPS (C : Addr) (pt : Str) (H : Hp) (E : XK) : Prop := ∀ (d : Addr) (H2 : Hp), Same H H2 → H2 d = some (.xd [("part", .str pt)]) → E (.ref C) (some d) H2
def ErrNS (C : Addr) (v : V) (H : Hp) (E : XK) : Prop := ∀ (d : Addr) (H2 : Hp), Same H H2 → H2 d = some (.xd [("value", v)]) → E (.ref C) (some d) H2
theorem ErrPS.p {C : Addr} {pt : Str} {H H' : Hp} {E : XK} (s : Same H H') (h : ErrPS C pt H E) : ErrP H' C E pt := fun d H2 s2 _ h2 => h d H2 (s.trans s2) h2
/-- what is told of a wheel that is asked for with these parts -/
structure MadeP (T : Txt K mg) (H : Hp) (Q : VK) (E : XK) (tr : Bool) (p b a : Int) : Prop where
  per : 1000000000000 < p → ErrPS T.bad.C "period" H E
  bck : p ≤ 1000000000000 → 1000000000000 < b → ErrPS T.bad.C "back" H E
  ahd : p ≤ 1000000000000 → b ≤ 1000000000000 → 1000000000000 < a → ErrPS T.bad.C "ahead" H E
  ok : p ≤ 1000000000000 → b ≤ 1000000000000 → a ≤ 1000000000000 → ∀ (y : Addr) (H' : Hp), Same H H' → WhE T H' y tr p b a → Q (.ref y) H'
/-- the parts of a wheel that stands -/
structure Parts (tr : Bool) (p b a : Int) : Prop where
  hp : 2 ≤ p ∧ p ≤ 1000000000000
  hb : 0 ≤ b ∧ b ≤ 1000000000000
  ha : 0 ≤ a ∧ a ≤ 1000000000000
  ht : tr = true → b = 0 ∧ a = 0
theorem bet_dec {lo n : Int} (h : lo ≤ n) (g : ¬ n ≤ 1000000000000) : betB lo 1000000000000 (.int n) = false := decide_eq_false fun z => g z.2
theorem bet_ok {lo n : Int} (h : lo ≤ n) (g : n ≤ 1000000000000) : betB lo 1000000000000 (.int n) = true := decide_eq_true ⟨h, g⟩
theorem made_W (T : Txt K mg) (W : Whl T) {H : Hp} {Q : VK} {E : XK} {p b a : Int} (hp : 2 ≤ p) (hb : 0 ≤ b) (ha : 0 ≤ a) (M : MadeP T H Q E false p b a) {x dx : Addr} (hx : H x = Option.none) (hdx : H dx = Option.none) (ne : dx ≠ x) :
    spWheelInit K T.bad.C [.ref x, .int p, .int b, .int a] (upd (upd H dx (.own x)) x (.ins T.a_Wheel dx [])) (fun v H2 => v = .non ∧ Q (.ref x) H2) E := by
  have s : Same H (upd (upd H dx (.own x)) x (.ins T.a_Wheel dx [])) := fun c o e => by
    rw [upd_ne (ne_of_none e hx), upd_ne (ne_of_none e hdx)]
    exact e
  refine ⟨x, T.a_Wheel, dx, _, _, _, _, _, _, rfl, W.W.w.w, upd_same, .int _, .int _, .int _, fun z => ?_, fun z1 z2 => ?_, fun z1 z2 z3 => ?_, ?_⟩
  · exact (M.per (by rcases Int.lt_or_le 1000000000000 p with q | q; exact q; exact absurd ((bet_ok hp q).symm.trans z) (by decide))).p s
  · have q1 := (of_decide_eq_true z1).2
    exact (M.bck q1 (by rcases Int.lt_or_le 1000000000000 b with q | q; exact q; exact absurd ((bet_ok hb q).symm.trans z2) (by decide))).p s
  · have q1 := (of_decide_eq_true z1).2
    have q2 := (of_decide_eq_true z2).2
    exact (M.ahd q1 q2 (by rcases Int.lt_or_le 1000000000000 a with q | q; exact q; exact absurd ((bet_ok ha q).symm.trans z3) (by decide))).p s
  · intro i j l e1 e2 e3 _ i2 _ j2 _ l2
    cases e1; cases e2; cases e3
    exact ⟨rfl, M.ok i2 j2 l2 x _ (mk_same hx hdx) ⟨_, _, W.W, by simp, dx, upd_same⟩⟩
theorem made_G (T : Txt K mg) (W : Whl T) {H : Hp} {Q : VK} {E : XK} {p : Int} (hp : 2 ≤ p) (M : MadeP T H Q E true p 0 0) {x dx : Addr} (hx : H x = Option.none) (hdx : H dx = Option.none) (ne : dx ≠ x) :
    spOneInit K T.bad.C T.a_Grid T.a_Wheel_init [.ref x, .int p] (upd (upd H dx (.own x)) x (.ins T.a_Grid dx [])) (fun v H2 => v = .non ∧ Q (.ref x) H2) E := by
  have s : Same H (upd (upd H dx (.own x)) x (.ins T.a_Grid dx [])) := fun c o e => by
    rw [upd_ne (ne_of_none e hx), upd_ne (ne_of_none e hdx)]
    exact e
  refine ⟨x, T.a_Grid, dx, _, _, rfl, W.G.w.w, W.sG, upd_same, .int _, fun z => ?_, ?_⟩
  · exact (M.per (by rcases Int.lt_or_le 1000000000000 p with q | q; exact q; exact absurd ((bet_ok hp q).symm.trans z) (by decide))).p s
  · intro i e1 _ i2
    cases e1
    exact ⟨rfl, M.ok i2 (by decide) (by decide) x _ (mk_same hx hdx) ⟨_, _, W.G, by simp, dx, upd_same⟩⟩
def spMul (T : Txt K mg) : Sp := fun vs H Q E => ∃ (x : Addr) (tr : Bool) (p b a : Int) (v : V) (t : String), vs = [.ref x, v] ∧ WhE T H x tr p b a ∧ Parts tr p b a ∧ NT H v t ∧
  (betB 1 1000000000000 v = false → ErrNS T.badN.C v H E) ∧ (∀ n, v = .int n → 1 ≤ n → n ≤ 1000000000000 → MadeP T H Q E tr (p * n) (b * n) (a * n))
theorem ok_Wheel_mul (HP : PrF lawFile P) (T : Txt K mg) (W : Whl T) : FnOk P w K mg base (L2.CX P w) 7 T.a_Wheel_mul T.fd_Wheel_mul ["self", "n"] (spMul T) := by
  refine T.F_Wheel_mul.okX sc_Wheel_mul (fun vs H Q E h => ?_) (fun cdv A outer s H vs Q E hr h => ?_)
  · obtain ⟨x, tr, p, b, a, v, t, rfl, _⟩ := h; rfl
  · obtain ⟨x, tr, p, b, a, v, t, rfl, ⟨C, f, wc, hC, dx, hx⟩, pa, ht, k1, k2⟩ := h
    obtain ⟨u, hu⟩ := wc.w.con
    refine ⟨_, pss_cons (ps_if (pt_not (pt_val (pe_call (ok_is_between T) (hr.mono (by decide)) rfl T.m_is_between T.F_is_between.kp (b_is_between T) .nil pass0 (pa_cons (pv 1) (pa_cons (pe_int) (pa_cons (pe_glob (v := .int 1000000000000) rfl T.m_MP T.r_MP) (pa_nil))))))) (pss_one (ps_raise rfl (takes_of rfl rfl rfl rfl) (pmk_badN T.badN (hr.mono (by decide)) rfl (pv 1)))) (pss_nil))
      (pss_cons (ps_if (pt_val (pe_con (pv 0) rfl)) (pss_one (ps_ret (pe_mkR W.G.mkr ((ok_Grid_init HP T).raw (b_Grid_init T) .nil) (hr.mono (by decide)) (passes_call (takes_of rfl rfl rfl rfl) (fun _ _ _ _ h => h)) rfl T.m_Grid (pa_cons (pe_op op_mulW (pe_fld (pv 0) rfl) (pv 1)) (pa_nil))))) (pss_nil))
      (pss_one (ps_ret (pe_mkR W.W.mkr ((ok_Wheel_init T).raw (b_Wheel_init T) .nil) (hr.mono (by decide)) (passes_call (takes_of rfl rfl rfl rfl) (fun _ _ _ _ h => h)) rfl T.m_Wheel (pa_cons (pe_op op_mulW (pe_fld (pv 0) rfl) (pv 1)) (pa_cons (pe_op op_mulW (pe_fld (pv 0) rfl) (pv 1)) (pa_cons (pe_op op_mulW (pe_fld (pv 0) rfl) (pv 1)) (pa_nil)))))))), ?_⟩
    refine ⟨_, rfl, v, t, 1, 1000000000000, rfl, ht, _, rfl, ?_⟩
    cases e : betB 1 1000000000000 v with
    | false => exact if_true_of rfl ⟨_, rfl, (by show 1 ≤ 1000; decide), fun a' ha => badN_fin T.badN ha fun d H2 s2 hd h2 => k1 e d H2 s2 h2⟩
    | true =>
      obtain ⟨n, rfl, n1, n2⟩ := betB_get e
      have M := k2 n rfl n1 n2
      refine if_false_of rfl ⟨_, rfl, x, C, dx, _, _, u, rfl, hx, wc.w.w.cls, hu, rfl, tr, rfl, ?_⟩
      have cm : ∀ z : Int, 0 ≤ z → z ≤ 1000000000000 → CMulW z n := fun z z0 z1 => wide_mul (a := 64) (b := 64) (by omega) (by omega) (by decide) (by decide) (by decide)
      have nn : ∀ z : Int, 0 ≤ z → 0 ≤ z * n := fun z z0 => Int.mul_nonneg z0 (by omega)
      have hp2 : 2 ≤ p * n := by
        have := Int.mul_le_mul_of_nonneg_left n1 (show 0 ≤ p by have := pa.hp.1; omega)
        have := pa.hp.1
        omega
      have fp := wc.w.w.na "period" (by simp)
      have fb := wc.w.w.na "back" (by simp)
      have fa := wc.w.w.na "ahead" (by simp)
      cases tr with
      | true =>
        obtain ⟨rfl, rfl⟩ := pa.ht rfl
        rw [Int.zero_mul] at M
        exact if_true_of rfl ⟨_, rfl, x, C, dx, _, _, rfl, hx, wc.w.w.cls, fp, rfl, _, rfl, _, _, rfl, rfl, cm p (by have := pa.hp.1; omega) pa.hp.2, tNil_to fun y dy hy hdy ne => made_G T W hp2 M hy hdy ne⟩
      | false =>
        exact if_false_of rfl ⟨_, rfl, x, C, dx, _, _, rfl, hx, wc.w.w.cls, fp, rfl, _, rfl, _, _, rfl, rfl, cm p (by have := pa.hp.1; omega) pa.hp.2, _, rfl, x, C, dx, _, _, rfl, hx, wc.w.w.cls, fb, rfl, _, rfl, _, _, rfl, rfl, cm b pa.hb.1 pa.hb.2,
          _, rfl, x, C, dx, _, _, rfl, hx, wc.w.w.cls, fa, rfl, _, rfl, _, _, rfl, rfl, cm a pa.ha.1 pa.ha.2, tNil_to fun y dy hy hdy ne => made_W T W hp2 (nn b pa.hb.1) (nn a pa.ha.1) M hy hdy ne⟩
def spWider (T : Txt K mg) : Sp := fun vs H Q E => ∃ (x : Addr) (tr : Bool) (p b a : Int) (v : V) (t : String), vs = [.ref x, v] ∧ WhE T H x tr p b a ∧ Parts tr p b a ∧ NT H v t ∧
  (betB 0 1000000000000 v = false → ErrNS T.badN.C v H E) ∧ (∀ n, v = .int n → 0 ≤ n → n ≤ 1000000000000 → (tr = true → Q (.ref x) H) ∧ (tr = false → MadeP T H Q E false p (b + n) (a + n)))
theorem ok_Wheel_wider (HP : PrF lawFile P) (T : Txt K mg) (W : Whl T) : FnOk P w K mg base (L2.CX P w) 7 T.a_Wheel_wider T.fd_Wheel_wider ["self", "k"] (spWider T) := by
  refine T.F_Wheel_wider.okX sc_Wheel_wider (fun vs H Q E h => ?_) (fun cdv A outer s H vs Q E hr h => ?_)
  · obtain ⟨x, tr, p, b, a, v, t, rfl, _⟩ := h; rfl
  · obtain ⟨x, tr, p, b, a, v, t, rfl, ⟨C, f, wc, hC, dx, hx⟩, pa, ht, k1, k2⟩ := h
    obtain ⟨u, hu⟩ := wc.w.con
    refine ⟨_, pss_cons (ps_if (pt_not (pt_val (pe_call (ok_is_between T) (hr.mono (by decide)) rfl T.m_is_between T.F_is_between.kp (b_is_between T) .nil pass0 (pa_cons (pv 1) (pa_cons (pe_int) (pa_cons (pe_glob (v := .int 1000000000000) rfl T.m_MP T.r_MP) (pa_nil))))))) (pss_one (ps_raise rfl (takes_of rfl rfl rfl rfl) (pmk_badN T.badN (hr.mono (by decide)) rfl (pv 1)))) (pss_nil))
      (pss_cons (ps_if (pt_val (pe_con (pv 0) rfl)) (pss_one (ps_ret (pv 0))) (pss_nil))
      (pss_one (ps_ret (pe_mkR W.W.mkr ((ok_Wheel_init T).raw (b_Wheel_init T) .nil) (hr.mono (by decide)) (passes_call (takes_of rfl rfl rfl rfl) (fun _ _ _ _ h => h)) rfl T.m_Wheel (pa_cons (pe_fld (pv 0) rfl) (pa_cons (pe_op op_add (pe_fld (pv 0) rfl) (pv 1)) (pa_cons (pe_op op_add (pe_fld (pv 0) rfl) (pv 1)) (pa_nil)))))))), ?_⟩
    refine ⟨_, rfl, v, t, 0, 1000000000000, rfl, ht, _, rfl, ?_⟩
    cases e : betB 0 1000000000000 v with
    | false => exact if_true_of rfl ⟨_, rfl, (by show 1 ≤ 1000; decide), fun a' ha => badN_fin T.badN ha fun d H2 s2 hd h2 => k1 e d H2 s2 h2⟩
    | true =>
      obtain ⟨n, rfl, n1, n2⟩ := betB_get e
      obtain ⟨m1, m2⟩ := k2 n rfl n1 n2
      refine if_false_of rfl ⟨_, rfl, x, C, dx, _, _, u, rfl, hx, wc.w.w.cls, hu, rfl, tr, rfl, ?_⟩
      have fp := wc.w.w.na "period" (by simp)
      have fb := wc.w.w.na "back" (by simp)
      have fa := wc.w.w.na "ahead" (by simp)
      cases tr with
      | true => exact if_true_of rfl ⟨_, rfl, m1 rfl⟩
      | false =>
        exact if_false_of rfl ⟨_, rfl, x, C, dx, _, _, rfl, hx, wc.w.w.cls, fp, rfl, _, rfl, x, C, dx, _, _, rfl, hx, wc.w.w.cls, fb, rfl, _, rfl, _, _, rfl, rfl,
          _, rfl, x, C, dx, _, _, rfl, hx, wc.w.w.cls, fa, rfl, _, rfl, _, _, rfl, rfl, tNil_to fun y dy hy hdy ne => made_W T W pa.hp.1 (by have := pa.hb.1; omega) (by have := pa.ha.1; omega) (m2 rfl) hy hdy ne⟩
/-- == of a wheel with a wheel of any class -/
def spWheelEq (T : Txt K mg) : Sp := fun vs H Q _ => ∃ (x y C C' f f' : Addr) (p b a p' b' a' : Int) (tr tr' : Bool), vs = [.ref x, .ref y] ∧ WhC T C f tr ∧ WhC T C' f' tr' ∧ WhAt H C x p b a ∧ WhAt H C' y p' b' a' ∧ Q (.bl (decide (tr = tr' ∧ p = p' ∧ b = b' ∧ a = a'))) H
theorem ok_Wheel_eq (T : Txt K mg) : FnOk P w K mg base CX0 1 T.a_Wheel_eq T.fd_Wheel_eq ["self", "other"] (spWheelEq T) := by
  refine T.F_Wheel_eq.ok sc_Wheel_eq (fun vs H Q E h => ?_) (fun cdv A outer s H vs Q E hr h => ?_)
  · obtain ⟨x, y, C, C', f, f', p, b, a, p', b', a', tr, tr', rfl, _⟩ := h; rfl
  · obtain ⟨x, y, C, C', f, f', p, b, a, p', b', a', tr, tr', rfl, cW, cW', ⟨dx, hx⟩, ⟨dy, hy⟩, k⟩ := h
    refine ⟨_, pss_cons (ps_if (PW.pt (pw_or (pt_not (pt_val (pe_callB call_isi (by rfl) T.n_isinstance (by decide +kernel) (pa_cons (pv 1) (pa_cons (pe_glob (v := .ref T.a_Wheel) rfl T.m_Wheel rfl) (pa_nil)))))) (pw_or1 (pt_cmpR op_ne (pe_con (pv 0) rfl) (pe_con (pv 1) rfl) (nomark _))))) (pss_one (ps_ret (pe_bl))) (pss_nil))
      (pss_one (ps_ret (pe_and (pe_cmpR op_eq (pe_fld (pv 0) rfl) (pe_fld (pv 1) rfl) (nomark _)) (pe_and (pe_cmpR op_eq (pe_fld (pv 0) rfl) (pe_fld (pv 1) rfl) (nomark _)) (pe_one (pe_cmpR op_eq (pe_fld (pv 0) rfl) (pe_fld (pv 1) rfl) (nomark _))))))), ?_⟩
    obtain ⟨u, hu⟩ := cW.w.con
    obtain ⟨u', hu'⟩ := cW'.w.con
    refine ⟨_, rfl, .ref y, .ref T.a_Wheel, .ref C', .ref T.a_Wheel, true, rfl, (by constructor), cW'.ty _ y dy _ hy, cW'.wh, true, rfl, ?_⟩
    refine iteF ⟨_, rfl, x, C, dx, _, _, u, rfl, hx, cW.w.w.cls, hu, rfl, _, rfl, y, C', dy, _, _, u', rfl, hy, cW'.w.w.cls, hu', rfl, rfl, _, rfl, ?_⟩
    by_cases ht : tr = tr'
    · subst ht
      refine if_false_of (by rw [decide_eq_true rfl]; rfl) ?_
      refine ⟨_, rfl, x, C, dx, _, _, rfl, hx, cW.w.w.cls, cW.w.w.na _ (by simp), rfl, _, rfl, y, C', dy, _, _, rfl, hy, cW'.w.w.cls, cW'.w.w.na _ (by simp), rfl, rfl, _, rfl, ?_⟩
      by_cases h1 : p = p'
      · subst h1
        refine if_true_of (decide_eq_true rfl) ?_
        refine ⟨_, rfl, x, C, dx, _, _, rfl, hx, cW.w.w.cls, cW.w.w.na _ (by simp), rfl, _, rfl, y, C', dy, _, _, rfl, hy, cW'.w.w.cls, cW'.w.w.na _ (by simp), rfl, rfl, _, rfl, ?_⟩
        by_cases h2 : b = b'
        · subst h2
          refine if_true_of (decide_eq_true rfl) ?_
          refine ⟨_, rfl, x, C, dx, _, _, rfl, hx, cW.w.w.cls, cW.w.w.na _ (by simp), rfl, _, rfl, y, C', dy, _, _, rfl, hy, cW'.w.w.cls, cW'.w.w.na _ (by simp), rfl, rfl, ?_⟩
          refine Eq.mpr (congrArg (fun c => Q (V.bl c) H) ?_) k
          rw [decide_eq_decide]
          exact ⟨fun z => ⟨rfl, rfl, rfl, by injection z⟩, fun z => by rw [z.2.2.2]⟩
        · refine if_false_of (decide_eq_false fun z => h2 (by injection z)) ?_
          rw [decide_eq_false fun z => h2 z.2.2.1] at k; exact k
      · refine if_false_of (decide_eq_false fun z => h1 (by injection z)) ?_
        rw [decide_eq_false fun z => h1 z.2.1] at k; exact k
    · refine if_true_of (by rw [decide_eq_false (fun z => ht (by injection z))]; rfl) ?_
      rw [decide_eq_false fun z => ht z.1] at k; exact k
theorem slen (a b : Str) : (a ++ b).length = a.length + b.length := by
  show (a.cps ++ b.cps).size = _
  rw [Array.size_append]
  rfl
/-- the text of a wheel, whichever it is -/
def spWheelStr (T : Txt K mg) : Sp := fun vs H Q _ => ∃ (x : Addr) (p b a : Int) (tr : Bool), vs = [.ref x] ∧ WhE T H x tr p b a ∧ Parts tr p b a ∧ Q (.str (NX.wtext tr p b a)) H
theorem ok_Wheel_str (T : Txt K mg) : FnOk P w K mg base CX0 1 T.a_Wheel_str T.fd_Wheel_str ["self"] (spWheelStr T) := by
  refine T.F_Wheel_str.ok sc_Wheel_str (fun vs H Q E h => ?_) (fun cdv A outer s H vs Q E hr h => ?_)
  · obtain ⟨x, p, b, a, tr, rfl, _⟩ := h; rfl
  · obtain ⟨x, p, b, a, tr, rfl, ⟨C, f, cW, hC, dx, hx⟩, pa, k⟩ := h
    obtain ⟨u, hu⟩ := cW.w.con
    refine ⟨_, pss_cons (ps_if (pt_val (pe_con (pv 0) rfl)) (pss_one (ps_ret (pe_joinedT (PJ.cons (pe_str) (PJ.cons (pe_fmt (pe_fld (pv 0) rfl)) (PJ.nil)))))) (pss_nil))
      (pss_one (ps_ret (pe_joinedT (PJ.cons (pe_str) (PJ.cons (pe_fmt (pe_fld (pv 0) rfl)) (PJ.cons (pe_str) (PJ.cons (pe_fmt (pe_fld (pv 0) rfl)) (PJ.cons (pe_str) (PJ.cons (pe_fmt (pe_fld (pv 0) rfl)) (PJ.nil)))))))))), ?_⟩
    have L : ∀ i : Int, 0 ≤ i → i ≤ 1000000000000 → i.natAbs.log2 < 1920 ∧ (Str.ofString (toString i)).length ≤ 13 := fun i h0 h1 => ⟨Nat.lt_trans (PySem.Flt.log2_lt_of (show 0 < 64 by decide) (show i.natAbs < 2 ^ 64 by omega)) (by decide), NX.len_num h0 h1⟩
    obtain ⟨p1, p2⟩ := L p (by have := pa.hp.1; omega) pa.hp.2
    obtain ⟨b1, b2⟩ := L b pa.hb.1 pa.hb.2
    obtain ⟨a1, a2⟩ := L a pa.ha.1 pa.ha.2
    refine ⟨_, rfl, x, C, dx, _, _, u, rfl, hx, cW.w.w.cls, hu, rfl, tr, rfl, ?_⟩
    cases tr with
    | true =>
      refine ⟨_, rfl, (by decide), _, rfl, x, C, dx, _, _, rfl, hx, cW.w.w.cls, cW.w.w.na _ (by simp), rfl, .inr ⟨p, rfl, p1, _, rfl, ?_, ?_⟩⟩
      · rw [slen]
        exact Nat.le_trans (Nat.add_le_add (show _ ≤ 10 by decide) p2) (by decide)
      · show Q (.str (Str.empty ++ "grid " ++ NX.num p)) H
        rw [show (Str.empty ++ ("grid " : Str)) = "grid " by decide]
        exact k
    | false =>
      refine ⟨_, rfl, (by decide), _, rfl, x, C, dx, _, _, rfl, hx, cW.w.w.cls, cW.w.w.na _ (by simp), rfl, .inr ⟨p, rfl, p1, _, rfl, ?_, _, rfl, ?_, _, rfl, x, C, dx, _, _, rfl, hx, cW.w.w.cls, cW.w.w.na _ (by simp), rfl, .inr ⟨b, rfl, b1, _, rfl, ?_, _, rfl, ?_, _, rfl, x, C, dx, _, _, rfl, hx, cW.w.w.cls, cW.w.w.na _ (by simp), rfl, .inr ⟨a, rfl, a1, _, rfl, ?_, ?_⟩⟩⟩⟩
      case refine_6 =>
        show Q (.str (Str.empty ++ "wheel " ++ NX.num p ++ " " ++ NX.num b ++ " " ++ NX.num a)) H
        rw [show (Str.empty ++ ("wheel " : Str)) = "wheel " by decide]
        exact k
      all_goals
        simp only [slen]
        have z1 : ("wheel " : Str).length = 6 := by decide
        have z2 : (" " : Str).length = 1 := by decide
        have z0 : (Str.empty : Str).length = 0 := by decide
        rw [sizeLine_eq]
        omega

/-! ### an error that is caught and kept -/
/-- at a: an exception of the class cls whose own dict is d -/
def XO (a : Addr) (cls : Value) (d : Option Addr) : HO := .ext fun h => ∃ (o : Obj) (vs : Array Value), h.get? a = some o ∧ Zc cls d o ∧ o.data = .fields vs
theorem XO_at {P : Program} {w : World} {H : Hp} {h : Heap} {a : Addr} {cls : Value} {d : Option Addr} (hok : HOk P w H h) (e : H a = some (XO a cls d)) : ∃ (o : Obj) (vs : Array Value), h.get? a = some o ∧ Zc cls d o ∧ o.data = .fields vs := by
  have x : ObjOk P w H h a (.ext fun h => ∃ (o : Obj) (vs : Array Value), h.get? a = some o ∧ Zc cls d o ∧ o.data = .fields vs) := hok a _ e
  exact x.1
theorem XO_ne {a : Addr} {cls : Value} {d : Option Addr} {u : HO} (h : ∀ φ, u ≠ .ext φ) : XO a cls d ≠ u := fun z => h _ z.symm
/-- an object that stands in the heap since the entry is taken up -/
theorem track {X : Cx} {pins : List (Addr × Obj)} {σ : L2.St} {H : Hp} {s : Shared} {a : Addr} {cls : Value} {d : Option Addr} {o : Obj} {vs : Array Value} (I : Inv X pins σ H s) (ha : s.heap.get? a = some o) (hz : Zc cls d o) (hd : o.data = .fields vs) (na : H a = Option.none)
    (n0 : X.s_0.heap.get? a = Option.none) (np : ∀ p ∈ X.pn ++ pins, p.1 ≠ a) (nL : a ≠ X.env.locals) : Inv X pins σ (upd H a (XO a cls d)) s := by
  have other : ∀ b u, H b = some u → b ≠ a := fun b u e => ne_of_none e na
  have cell : ∀ x c, X.env.cells.lookup x = some c → c ≠ a := fun x c e z => by
    obtain ⟨v, oc, q1, q2⟩ := I.cell x c e
    rw [z, ha] at q1
    cases q1
    rw [hd] at q2
    cases q2
  have start0 : ∀ b u, X.s_0.heap.get? b = some u → b ≠ a := fun b u e z => by
    rw [z, n0] at e
    cases e
  have B := I.base
  exact { ok := I.ok, os := I.os, bare := I.bare, loc := I.loc, cell := I.cell, len := I.len
          base := { keep := B.keep, slot := B.slot, there := B.there
                    free := fun b u e1 e2 e3 => by rw [upd_ne (start0 b u e1)]; exact B.free b u e1 e2 e3
                    tups := fun b xs e => by rw [upd_ne (other b _ (B.tups b xs e))]; exact B.tups b xs e
                    frzs := fun b ob u e => by rw [upd_ne (other b _ (B.frzs b ob u e))]; exact B.frzs b ob u e
                    tbls := fun b ps e => by
                      obtain ⟨more, q⟩ := B.tbls b ps e
                      exact ⟨more, by rw [upd_ne (other b _ q)]; exact q⟩ }
          free := by rw [upd_ne (Ne.symm nL)]; exact I.free
          freeC := fun x c e => by rw [upd_ne (cell x c e)]; exact I.freeC x c e
          pin := fun p hp => by
            obtain ⟨q1, q2, q3⟩ := I.pin p hp
            exact ⟨q1, by rw [upd_ne (np p hp)]; exact q2, q3⟩
          hok := fun b u e => by
            by_cases hb : b = a
            · rw [hb, upd_same] at e
              cases e
              rw [hb]
              exact ⟨⟨o, vs, ha, hz, hd⟩, ⟨o, ha⟩, fun h1 h2 ⟨o1, v1, q1, q2⟩ k => ⟨o1, v1, k _ q1, q2⟩⟩
            · rw [upd_ne hb] at e
              exact (I.hok b u e).stay (fun _ _ _ q => q) (fun c q => by rw [upd_ne (other c _ q)]; exact q) fun c xs q => by rw [upd_ne (other c _ q)]; exact q }
/-- what the clause «except x as n» wishes, the error kept behind it -/
def wKeep (K : PySem.W.Frag) (c : Value) (i : Nat) (ts : Addr → Value → Option Addr → TS) (D : Ends) : WX := fun cls d σ H =>
  PySem.W.exmOne K cls c = some true ∧ ∀ a, H a = Option.none → ts a cls d { nx := fun σ1 H1 => H1 a = Option.none → D.nx (σ1.set i Option.none) (upd H1 a (XO a cls d)), rt := fun _ _ => False } (σ.set i (some (.ref a))) H
section
variable {X : Cx} {x n : Str} {c : Value} {i : Nat} {body suite : List Stmt} {b₀ : Stmt} {np pos pos' : Pos} {tb : WX → TS} {ts : Addr → Value → Option Addr → TS}
theorem ps_try_keep (hs : X.stack = X.env :: X.outer) (hf : X.env.frame = some X.env.locals) (hex : X.ex = []) (hN : X.N.Nodup) (hi : X.N[i]? = some n) (hln : X.env.kindOf n = some .local) (hc : Names X x c)
    (hb : ∀ (W : WX) (pn : List (Addr × Obj)) (xe : Value → Shared → Prop), Takes (X.tr pn xe) W → PassesOwn (model X.prog X.w) X.A X.env xe → PSs (X.tr pn xe) body (tb W))
    (hsu : ∀ (a : Addr) (oe : Obj) (cls : Value) (d : Option Addr) (pn : List (Addr × Obj)), Zc cls d oe → (∃ vs, oe.data = .fields vs) → PSs (X.suite a ((a, oe) :: pn)) (b₀ :: suite) (ts a cls d)) :
    PS X (.Try body [.ExceptHandler (some (.Name x np)) (some n) (b₀ :: suite) pos'] [] [] pos) (fun D σ H => tb (wKeep X.K c i ts D) D σ H) := by
  refine ⟨fun pins s σ H D I h => wpAny_Try_except ?_⟩
  have ok := I.ok
  have frames : X.A.frames = some (X.env :: X.outer) := ok.frames.trans (by rw [hs])
  have R := (hb (wKeep X.K c i ts D) (X.pn ++ pins)
    (fun e q1 => wpAny (model X.prog X.w) X.A (noteFrame e X.env) (fun _ q2 => wpAny (model X.prog X.w) X.A (setFlight e none) (fun _ q3 => wpAny (model X.prog X.w) X.A (handleBy e X.env [.ExceptHandler (some (.Name x np)) (some n) (b₀ :: suite) pos']) (SP X pins D) X.xe q3) X.xe q2) X.xe q1)
    (fun u q xx => ?caught) PassesOwn.looking).run [] s σ H D (I.toTry _) h
  case caught =>
    obtain ⟨a, B, t, ps1, σ1, H1, cls, d, rfl, J0, ground, upto, sky, na, os, ag, yes, rest⟩ := xx
    have J : Inv X pins σ1 H1 t := J0.ofTry ok
    show wpAny (model X.prog X.w) X.A (noteFrame (.ref a) X.env) _ _ _
    refine Sky.land Zc.steady frames hf (hs ▸ sky) fun hp fl upto2 => ?_
    have J1 : Inv X pins σ1 H1 { q with heap := hp } := J.landed ground fl.1 (upto.trans upto2) os ag
    obtain ⟨o1, v1, at1, z1, d1⟩ := fl.there
    have nfr : a ∉ frs (X.env :: X.outer) := fun hm => by
      obtain ⟨_, o2, e2, nd⟩ := fl.2.2.1.mem hm
      rw [at1] at e2
      cases e2
      exact nd _ d1
    have nL : a ≠ X.env.locals := fun z => nfr (List.mem_filterMap.mpr ⟨X.env, List.mem_cons_self, by rw [hf, z]⟩)
    have nF : a ∉ X.fs := fun hm => by
      obtain ⟨e, he, z⟩ := List.mem_filterMap.mp hm
      exact nfr (List.mem_filterMap.mpr ⟨e, List.mem_cons_of_mem _ he, z⟩)
    -- it did not stand there
    have nt : t.heap.get? a = Option.none := by
      match z : t.heap.get? a with
      | Option.none => rfl
      | some o2 =>
        have z2 := ground a o2 z (by rw [hs]; exact nfr)
        rw [fl.2.1] at z2
        cases z2
    have n0 : X.s_0.heap.get? a = Option.none := by
      match z : X.s_0.heap.get? a with
      | Option.none => rfl
      | some o2 =>
        obtain ⟨o3, z3⟩ := J.base.there a o2 z (by rw [hex]; exact List.not_mem_nil)
        rw [nt] at z3
        cases z3
    have npn : ∀ p ∈ X.pn ++ pins, p.1 ≠ a := fun p hp z => by
      have z2 := (J.pin p hp).1
      rw [z, nt] at z2
      cases z2
    have S1 := J1.suite at1 d1 na nL nF
    refine wpAny_handleBy_cons (codeAny_handlers_test ?_) (by intro z; cases z)
    have kind : PySem.W.Looks (model X.prog X.w) hp (typeOf (.ref a)) cls := fun A Q E s1 k z => wpAny_typeOf_ref (k _ _ at1) (by rw [z1.1]; exact z)
    have meets := PySem.W.exm_one (M := model X.prog X.w) J1.kIn kind yes
    have look : ∀ {Q : Value → Shared → Prop} {E : Value → Shared → Prop}, Q c { q with heap := hp } → wpAny (model X.prog X.w) (X.A.mark (some (.ref a))) (eval (.Name x np) X.env) Q E { q with heap := hp } := fun {Q E} z => by
      obtain ⟨g1, g2, g3⟩ := hc
      rcases g3 with g3 | ⟨g3, g4, g5⟩
      · exact ld_glob (X := X.suite a ((a, o1) :: (X.pn ++ pins))) S1 g1 g3 z g2
      · exact ld_blt (X := X.suite a ((a, o1) :: (X.pn ++ pins))) S1 g1 g3 g4 z g5 g2
    refine look (meets.here (codeAny_handlers_suite_as (HandSPX.lands_againZ fl fun hp2 fl2 upto3 => ?_)))
    have J2 : Inv X pins σ1 H1 { q with heap := hp2 } := J.landed ground fl2.1 ((upto.trans upto2).trans upto3) os ag
    obtain ⟨o2, v2, at2, z2, d2⟩ := fl2.there
    refine store_ok (X := X.suite a ((a, o2) :: (X.pn ++ pins))) (v := .ref a) (J2.suite at2 d2 na nL nF) hN hi (.inl hln) rfl (fun s5 S5 => ?_) (.inr hln)
    refine wpAny_mono ((hsu a o2 cls d (X.pn ++ pins) z2 ⟨_, d2⟩).run [] s5 _ H1 _ S5 (rest a na)) (fun f s6 hsp => ?_) (fun _ _ z => z.elim)
    match f, hsp with
    | .next, ⟨σ6, H6, S6, q6⟩ =>
      obtain ⟨p1, p2, _⟩ := S6.pin (a, o2) (List.mem_append_left _ List.mem_cons_self)
      have J6 := track (S6.unsuite ok) p1 z2 d2 p2 n0 npn nL
      exact gone_ok J6 hN hi hln fun s7 J7 => ⟨_, _, J7, q6 p2⟩
    | .ret u, ⟨_, _, _, _, _, z⟩ => exact z.elim
    | .brk, ⟨_, _, _, z⟩ => exact z.elim
    | .cont, ⟨_, _, _, z⟩ => exact z.elim
  refine wpAny_mono R (fun f s1 hsp => ?_) fun e s1 he => he
  match f, hsp with
  | .next, ⟨σ1, H1, J, q⟩ => exact wpAny_execs_nil ⟨σ1, H1, J.ofTry ok, q⟩
  | .ret u, ⟨v, σ1, H1, J, r, q⟩ => exact ⟨v, σ1, H1, J.ofTry ok, r, q⟩
  | .brk, ⟨σ1, H1, J, q⟩ => exact ⟨σ1, H1, J.ofTry ok, q⟩
  | .cont, ⟨σ1, H1, J, q⟩ => exact ⟨σ1, H1, J.ofTry ok, q⟩
end
/-- what the written part says of an error's class C -/
structure ErrC (K : PySem.W.Frag) (C : Addr) : Prop where
  cl : (PySem.W.clsIn K C).isSome = true
  ga : PySem.W.findIn K (.ref C) "__getattribute__" = some (some (.builtin "BaseException.__getattribute__"))
  gg : PySem.W.findIn K (.ref C) "__getattr__" = some Option.none
  ex : PySem.W.subIn K (.ref C) (.type "BaseException") = some true
  hd : PySem.W.hasDictIn K C = true
  ha : PySem.W.findIn K (.ref C) "__class__" = some (some (.builtin "object.__class__"))
  hn : PySem.W.specialIn K (.builtin "object.__class__") "__get__" = some (some (.builtin "getset_descriptor.__get__"))
  ht : PySem.W.takesIn K (.builtin "object.__class__") = some true
  hm : PySem.W.mroIn K C (.type "object") = some true
theorem XO_inst {X : Cx} {pins : List (Addr × Obj)} {σ : L2.St} {H : Hp} {s : Shared} {a C d : Addr} {fs : List (Str × V)} (I : Inv X pins σ H s) (e : H a = some (XO a (.ref C) (some d))) (ed : H d = some (.xd fs)) :
    ∃ (o od : Obj), PySem.W.InstAt s.heap a o C (some od) ∧ ∃ mA : Str → Option Value, (∀ f, RelO (fs.lookup f) (mA f)) ∧ ∀ f : Str, PySem.W.lookIn f od = some (mA f) := by
  obtain ⟨o, vs, h1, h2, h3⟩ := XO_at I.hok e
  obtain ⟨mA, hns, hr⟩ := (show ObjOk X.prog X.w H s.heap d (.xd fs) from I.hok d _ ed)
  obtain ⟨od, ho, hl⟩ := lookIn_ns hns
  exact ⟨o, od, ⟨h1, h2.1, by unfold PySem.W.notCls; rw [h3] <;> rfl, by rw [h2.2]; exact ho⟩, mA, hr, hl⟩
/-- isinstance(e, c), e kept -/
def rIsK (K : PySem.W.Frag) : List V → Hp → VK → Prop := fun xs H Q => ∃ (a C d : Addr) (fs : List (Str × V)) (c : V) (cv : Value) (b : Bool), xs = [.ref a, c] ∧ H a = some (XO a (.ref C) (some d)) ∧ H d = some (.xd fs) ∧ ErrC K C ∧ (∀ u, RelV c u → u = cv) ∧ PySem.W.kitOne K (.ref C) cv = some b ∧ Q (.bl b) H
theorem call_isK {X : Cx} : CallR X (.builtin "isinstance") (rIsK X.K) := by
  intro pins s σ H xs us Q I r h
  obtain ⟨a, C, d, fs, c, cv, b, rfl, e, ed, T, hc, k, q⟩ := h
  obtain ⟨u1, u2, rfl, r1, r2⟩ := vals2 r
  obtain rfl : u1 = Value.ref a := r1
  have e2 := hc _ r2
  subst e2
  obtain ⟨o, od, J, _⟩ := XO_inst I e ed
  exact PySem.W.kia_one (PySem.W.kitx_exc T.cl T.ga T.gg T.ex T.ha T.hn T.ht T.hm) I.kIn J k (fun z => nomatch z) fun tk => ⟨.bl b, H, I.kept (t' := tk) fun _ _ z => z, rfl, q⟩
/-- e.f, e kept -/
def tFldK (K : PySem.W.Frag) (f : Str) (te : TE) : TE := fun σ H Q => te σ H fun x H1 => ∃ (a C d : Addr) (fs : List (Str × V)) (v : V), x = .ref a ∧ H1 a = some (XO a (.ref C) (some d)) ∧ H1 d = some (.xd fs) ∧ ErrC K C ∧ PySem.W.findIn K (.ref C) f = some Option.none ∧ fs.lookup f = some v ∧ Q v H1
theorem pe_fldK {X : Cx} {e : Expr} {te : TE} {f : Str} {pos : Pos} (he : PE X e te) (hb : attributeBase e f X.env (eval e X.env) = eval e X.env := by rfl) : PE X (.Attribute e f pos) (tFldK X.K f te) := by
  refine ⟨fun pins s σ H Q I h => attr_of hb (thn (he.run pins s σ H _ I h) fun u s1 hh => ?_)⟩
  obtain ⟨y, H1, I1, ry, a, C, d, fs, v, rfl, ea, ed, T, no, l, q⟩ := hh
  obtain rfl : u = Value.ref a := ry
  obtain ⟨o, od, J, mA, hr, hl⟩ := XO_inst I1 ea ed
  obtain ⟨u, hu, ru⟩ := RelO.some_of (v := v) (o := mA f) (by rw [← l]; exact hr f)
  exact HandSPX.exc_get I1.kIn J T.ga T.gg T.ex (PySem.W.findObj_own T.hd no rfl (by rw [hl, hu])) (handed_of ru) ⟨v, H1, I1.tok _, ru, q⟩

/-! ### a def that calls the lambda it got; what the caught error meets is told of the names as they stand at the call -/
/-- the context of that def's body, entered at s -/
abbrev zCx (X : Cx) (Ng : List Str) (x : Str) (sg : Scope) (g : Addr) (cdg : Value) (s : Shared) (H : Hp) : Cx :=
  cxOf C8.CX0 X.prog X.w X.K X.mg X.base Ng x sg g cdg X.A X.stack s H C8.E0
/-- what is there of the lambda f: its object, as the text made it -/
structure LamAt (X : Cx) (H : Hp) (s : Shared) (params : Arguments) (body : Expr) (scope : Scope) (f c' : Addr) : Prop where
  obj : ∃ pm ctv, s.heap.get? f = some (PySem.W.kla_obj "<lambda>" (X.env.qual ++ "<lambda>") params body scope (cloFrom X.env.cells scope.names []) pm c' ctv)
  un : H f = Option.none
  fr : f ∉ frs X.stack
section
variable {X : Cx} {pins : List (Addr × Obj)} {σ : L2.St} {H HZ : Hp} {s s1 : Shared} {Ng : List Str} {x a : Str} {sg scope : Scope} {g f c' : Addr} {cdg : Value} {params : Arguments} {body : Expr} {k : Nat} {tb : TE} {E : XK} {Q : VK}
/-- the lambda runs: its body, told of the names around it -/
theorem lam_runs (I : Inv X pins σ H s) (L : LamX.LamS X.env.scope scope) (F : LamAt X H s params body scope f c')
    (hbind : ∀ (q : Str) (cl : List (Str × Addr)) (pm cv ctv : Value), bindArgs (PySem.W.kla_fn "<lambda>" q params body scope cl pm cv ctv) ⟨[], []⟩ = pure []) (hr : Room (k + 1) (zCx X Ng x sg g cdg s H).A)
    (hbody : ∀ (A : Around) (outer : List Env) (s : Shared) (H : Hp), Room k (A.deeper (LamX.lamEnv X scope s.heap.objs.size f c')) → PE (LamX.lamCx X A outer s H E scope f c') body tb)
    {pn : List (Addr × Obj)} {xe : Value → Shared → Prop} {pZ : List (Addr × Obj)} {σZ : L2.St} (I1 : Inv ((zCx X Ng x sg g cdg s H).tr pn xe) pZ σZ HZ s1)
    (hc : HZ c' = some (LamX.CodeO c' (X.env.qual ++ "<lambda>"))) (ht : tb σ HZ Q) :
    (∃ o : Obj, s1.heap.get? f = some o ∧ ∃ (fq : Str) (cl : List (Str × Addr)) (pm ctv : Value), o = PySem.W.kla_obj "<lambda>" fq params body scope cl pm c' ctv) ∧
    codeAny (model X.prog X.w) (zCx X Ng x sg g cdg s H).A (.call (.ref f) ⟨[], []⟩) (CR (L2.CX X.prog X.w) (zCx X Ng x sg g cdg s H).stack X.prog X.w HZ s1 Q E) s1 := by
  obtain ⟨pm, ctv, hf⟩ := F.obj
  have nx : f ∉ (zCx X Ng x sg g cdg s H).ex := by
    show f ∉ ([] : List Addr)
    simp
  have at1 := I1.base.keep f _ hf F.un F.fr nx
  obtain ⟨w1, _⟩ := I1.hok c' _ hc
  obtain ⟨oc, vs, t, q1, q2, q3⟩ := w1
  have un : Un (frs X.stack) [] H HZ s.heap s1.heap := I1.base
  refine ⟨⟨_, at1, _, _, _, _, rfl⟩, PySem.W.kla_callFunE hr.depth at1 rfl L.co L.gen rfl ⟨c', oc, vs, t, rfl, q1, q2, q3⟩ ?_⟩
  rw [hbind]
  refine wpAny_pure (wpAny_newFunctionEnv (fun y hy => (L.own y hy).2) (fun _ z => absurd z (by simp)) ?_ L.kind)
  intro h1 ns sb
  refine ⟨I1.nolimit.fresh _ sb, ?_⟩
  have keep : ∀ b o, s1.heap.get? b = some o → h1.get? b = some o := fun b o e => sb.extBut b o (Nat.ne_of_lt (Heap.lt_size e)) (Heap.get?_push_of_some _ e)
  have J := LamX.lam_start2 (E := E) (f := f) (c' := c') (tk := s1.toks + ([] : List (Str × Value)).length) I L I1.env0 hr.hd un ns keep
  refine PySem.W.kla_codeExpr (wpAny_mono ((hbody _ _ s1 HZ (hr.deeper _)).run [] _ _ HZ Q J ht) ?_ ?_)
  · rintro v s' ⟨w2, H2, J2, r2, q⟩
    exact ⟨w2, H2, J2.os, J2.bare, J2.base, J2.hok, r2, q⟩
  · exact fun _ _ z => z
/-- a(), a the name of the lambda there -/
theorem act_w (I : Inv X pins σ H s) (L : LamX.LamS X.env.scope scope) (F : LamAt X H s params body scope f c')
    (hbind : ∀ (q : Str) (cl : List (Str × Addr)) (pm cv ctv : Value), bindArgs (PySem.W.kla_fn "<lambda>" q params body scope cl pm cv ctv) ⟨[], []⟩ = pure []) (hr : Room (k + 1) (zCx X Ng x sg g cdg s H).A)
    (hbody : ∀ (A : Around) (outer : List Env) (s : Shared) (H : Hp), Room k (A.deeper (LamX.lamEnv X scope s.heap.objs.size f c')) → PE (LamX.lamCx X A outer s H E scope f c') body tb)
    {pn : List (Addr × Obj)} {xe : Value → Shared → Prop} {W : WX} {p1 p2 : Pos} (tk : Takes ((zCx X Ng x sg g cdg s H).tr pn xe) W) (hN : Ng[0]? = some a) (hv : Vis sg a) (hd : (a == ("__debug__" : Str)) = false) (hcd : (a == ("__classdict__" : Str)) = false) :
    PE ((zCx X Ng x sg g cdg s H).tr pn xe) (.Call (.Name a p1) [] [] p2)
      (fun σZ HZ Q => σZ[0]? = some (some (.ref f)) ∧ HZ c' = some (LamX.CodeO c' (X.env.qual ++ "<lambda>")) ∧ (∀ cls d H', E cls d H' → W cls d σZ H') ∧ tb σ HZ Q) := by
  constructor
  intro pZ sZ σZ HZ Q IZ ⟨h0, hc, hW, ht⟩
  have V := (pe_var (X := (zCx X Ng x sg g cdg s H).tr pn xe) (pos := p1) (i := 0) hN hv hd hcd).run pZ sZ σZ HZ (fun v H1 => v = .ref f ∧ H1 = HZ) IZ ⟨.ref f, h0, rfl, rfl⟩
  refine wpAny_Call_Name_kw (thn V fun u s1 hu => ?_)
  obtain ⟨v, H1, I1, r1, rfl, rfl⟩ := hu
  obtain rfl : u = Value.ref f := r1
  obtain ⟨⟨o, ho, fq, cl, pm, ctv, rfl⟩, run⟩ := lam_runs I L F hbind hr hbody I1 hc ht
  refine PySem.W.callWith_F0 ⟨_, _, _, _, ho⟩ (wpAny_call (codeAny_mono run fun r s' z => ?_))
  match r, z with
  | .error e, z => exact tk e s' (XE.of_call I1 hW z)
  | .ok (.ret u), z => exact I1.after z
end
/-- the def's promise, whatever lambda it got -/
def GivesW (X : Cx) (Ng : List Str) (x : Str) (sg : Scope) (g : Addr) (cdg : Value) (bg : List Stmt) (a : Str) (q : Str) (TT : (XK → Hp → VK → Prop) → Hp → VK → Prop) : Prop :=
  ∀ (f c' : Addr) (s : Shared) (H : Hp) (Q : VK) (tl : XK → Hp → VK → Prop),
    (∀ (W : WX) (pn : List (Addr × Obj)) (xe : Value → Shared → Prop) (E : XK) (p1 p2 : Pos), Takes ((zCx X Ng x sg g cdg s H).tr pn xe) W →
      PE ((zCx X Ng x sg g cdg s H).tr pn xe) (.Call (.Name a p1) [] [] p2) fun σZ HZ Q => σZ[0]? = some (some (.ref f)) ∧ HZ c' = some (LamX.CodeO c' q) ∧ (∀ cls d H', E cls d H' → W cls d σZ H') ∧ tl E HZ Q) →
    H c' = some (LamX.CodeO c' q) → TT tl H Q → ∃ t, PSs (zCx X Ng x sg g cdg s H).nox bg t ∧ t { nx := fun _ H' => Q .non H', rt := Q } (L2.start Ng [.ref f]) H
/-- x(lambda: body) -/
theorem pe_lamW {X : Cx} {TT : (XK → Hp → VK → Prop) → Hp → VK → Prop} {x a : Str} {st : Stmt} {fd : FuncData} {g c P : Addr} {k : Nat} {Ng : List Str} {params : Arguments} {body : Expr} {scope : Scope} {t : XK → TE} {p lpos pos : Pos}
    (hg : Gl X x) (hm : X.mg x = some (.ref g)) (Fg : Fun X.K x x st g fd) (hb : L2.Binds X.K fd [a] []) (Sg : FnScope Ng [a] (defScope st)) (hNg : Ng[0]? = some a) (hva : Vis (defScope st) a)
    (hG : ∀ cdg, GivesW X Ng x (defScope st) g cdg (defBody st) a (X.env.qual ++ "<lambda>") TT)
    (TB : LamX.TabB X.base X.mg c P) (hcode : X.env.code = .ref c) (hr : Room (k + 2) X.A) (L : LamX.LamS X.env.scope scope) (hdef : defaultsOf params X.env = ([], []))
    (hbind : ∀ (q : Str) (cl : List (Str × Addr)) (pm cv ctv : Value), bindArgs (PySem.W.kla_fn "<lambda>" q params body scope cl pm cv ctv) ⟨[], []⟩ = pure [])
    (hbody : ∀ (A : Around) (outer : List Env) (s : Shared) (H : Hp) (E : XK) (f c' : Addr), Room k (A.deeper (LamX.lamEnv X scope s.heap.objs.size f c')) → PE (LamX.lamCx X A outer s H E scope f c') body (t E))
    (hdb : (x == ("__debug__" : Str)) = false := by decide) (hd : (a == ("__debug__" : Str)) = false := by decide) (hcd : (a == ("__classdict__" : Str)) = false := by decide) :
    PE X (.Call (.Name x p) [.Lambda params body scope lpos] [] pos) (LamX.tLam [(P, X.env.qual ++ "<lambda>")] TT t) := by
  constructor
  intro pins s σ H Q I ⟨hT, h⟩
  obtain ⟨oc, od, kV, doc, pm, an, cdv, ct, osl, rfl, lk, hcg⟩ := Fg.ex
  refine wpAny_Call_Name_kw (ld_glob I hg hm ?_ hdb)
  refine PySem.W.callWith_K (h₀ := X.base) I.ok.mod.kin Fg.kp ?_ (by rfl) (by rfl)
  refine Calls.spliced_cons (LamX.lam_make2 I TB hcode List.mem_cons_self (fun p hp _ => by rw [List.mem_singleton.mp hp]) hT hdef (L.has I.ok) ?_)
  intro f c' pm' ctv H1 s' I1 eN T1 hf hfn hfr hco
  refine Calls.spliced_nil ⟨I1.kIn, wpAny_call ?_⟩
  have F1 : LamAt X H1 s' params body scope f c' := ⟨⟨_, _, hf⟩, hfn, hfr⟩
  refine codeAny_mono (LamX.run_ofS (CX := C8.CX0) (E := C8.E0) (Q := Q) (N := Ng) (ps := [a]) (us := [.ref f]) (vs := [.ref f]) lk hcg Sg hr I1.env0 (hb s' [.ref f] I1.kIn rfl) (.cons rfl .nil) rfl fun hr' => ?_) fun r s2 z => ?_
  · obtain ⟨t', ht', hq'⟩ := hG cdv f c' s' H1 Q (fun E H' Q' => t E σ H' Q') (fun W pn xe E p1 p2 tk => act_w I1 L F1 hbind hr' (fun A outer s H hr2 => hbody A outer s H E f c' hr2) tk hNg hva hd hcd) hco (h H1 eN T1)
    exact ⟨t', ht'.nox, hq'⟩
  · match r, z with
    | .ok (.ret u), z => exact I1.after z

theorem SqL.sameR {K : PySem.W.Frag} {H H' : Hp} {a : Addr} {xs : List V} (s : Same H H') (h : SqL K H a xs) : SqL K H' a xs := by
  rcases h with (h | ⟨o, h⟩) | h
  · exact .inl (.inl (s _ _ h))
  · exact .inl (.inr ⟨o, s _ _ h⟩)
  · exact .inr h
theorem SqT.same {K : PySem.W.Frag} {H H' : Hp} {a : Addr} {xs : List V} (s : Same H H') (h : SqT K H a xs) : SqT K H' a xs := by
  rcases h with (h | ⟨o, h⟩) | h
  · exact .inl (.inl (s _ _ h))
  · exact .inl (.inr ⟨o, s _ _ h⟩)
  · exact .inr h
mutual
theorem dp_same {K : PySem.W.Frag} {H H' : Hp} (s : Same H H') : ∀ (d : PyData) (v : V), Dp K H v d → Dp K H' v d
  | .none, _, h => by cases h; exact .non
  | .bool _, _, h => by cases h; exact .bl _
  | .int _, _, h => by cases h; exact .int _
  | .str _, _, h => by cases h; exact .str _
  | .list ds, _, h => by
    cases h with
    | lst h1 ha => exact .lst (SqL.sameR s h1) (dp_sameAll s ds _ ha)
  | .tuple ds, _, h => by
    cases h with
    | tup h1 ha => exact .tup (SqT.same s h1) (dp_sameAll s ds _ ha)
  | .dict _, _, h => by cases h
theorem dp_sameAll {K : PySem.W.Frag} {H H' : Hp} (s : Same H H') : ∀ (ds : List PyData) (vs : List V), DpAll K H vs ds → DpAll K H' vs ds
  | [], _, h => by cases h; exact .nil
  | d :: ds, _, h => by
    cases h with
    | cons h1 h2 => exact .cons (dp_same s d _ h1) (dp_sameAll s ds _ h2)
end
theorem Dq.same {K : PySem.W.Frag} {H H' : Hp} (s : Same H H') {v : V} {d : PyData} (h : Dq K H v d) : Dq K H' v d := by
  cases h with
  | dp h => exact .dp (dp_same s _ _ h)
  | d0 h => exact .d0 (s _ _ h)
/-- v shows as d -/
structure Shw (K : PySem.W.Frag) (H : Hp) (v : V) (d : PyData) : Prop where
  dq : Dq K H v d
  sh : d.showable = true
  dep : d.depth ≤ 60
  len : d.shown.length ≤ sizeLine
theorem Shw.same {K : PySem.W.Frag} {H H' : Hp} (s : Same H H') {v : V} {d : PyData} (h : Shw K H v d) : Shw K H' v d := ⟨h.dq.same s, h.sh, h.dep, h.len⟩
/-! ### what is heard of a call: its value in a list, or a pair of words that tell the error -/
/-- what the written part says of the classes that are asked for -/
structure Caught (T : Txt K mg) where
  R : Addr
  m_R : mg "ReachError" = some (.ref R)
  ex : ∀ C ∈ [T.badN.C, T.bad.C, T.badT.C], PySem.W.exmOne K (.ref C) (.ref R) = some true ∧ ErrC K C ∧ PySem.W.kitOne K (.ref C) (.type "ValueError") = some true
  kN : PySem.W.kitOne K (.ref T.badN.C) (.ref T.badN.C) = some true ∧ PySem.W.kitOne K (.ref T.badN.C) (.ref T.bad.C) = some false ∧ PySem.W.kitOne K (.ref T.badN.C) (.ref T.badT.C) = some false
  kW : PySem.W.kitOne K (.ref T.bad.C) (.ref T.badN.C) = some false ∧ PySem.W.kitOne K (.ref T.bad.C) (.ref T.bad.C) = some true ∧ PySem.W.kitOne K (.ref T.bad.C) (.ref T.badT.C) = some false
  kT : PySem.W.kitOne K (.ref T.badT.C) (.ref T.badN.C) = some false ∧ PySem.W.kitOne K (.ref T.badT.C) (.ref T.bad.C) = some false ∧ PySem.W.kitOne K (.ref T.badT.C) (.ref T.badT.C) = some true
/-- a pair of these two is wished -/
def PairQ (H' : Hp) (M : Addr) (Q : VK) (x y : V) : Prop := ∀ (U : Addr) (H2 : Hp), H' U = Option.none → (∀ b o, b ≠ M → H' b = some o → H2 b = some o) → H2 U = some (.tup [x, y]) → Q (.ref U) H2
/-- what is wished of a raised error, told at the list M -/
def EHeard (T : Txt K mg) (M : Addr) (Q : VK) : XK := fun cls d H' => ∃ (dx : Addr), d = some dx ∧ H' M = some (.lst []) ∧
  ((cls = .ref T.badN.C ∧ ∃ (v : V) (dd : PyData), H' dx = some (.xd [("value", v)]) ∧ Shw K H' v dd ∧ PairQ H' M Q (.str "number") (.str dd.shown)) ∨
   (cls = .ref T.bad.C ∧ ∃ pt : Str, H' dx = some (.xd [("part", .str pt)]) ∧ PairQ H' M Q (.str "wheel") (.str pt)) ∨
   (cls = .ref T.badT.C ∧ ∃ i : Nat, i < 1000 ∧ H' dx = some (.xd [("word", .int (i : Nat)), ("line", .int 0)]) ∧ PairQ H' M Q (.str "text") (.int (i : Nat))))
/-- the reading: the call returns v, or raises one of the errors -/
def TTheard (T : Txt K mg) : (XK → Hp → VK → Prop) → Hp → VK → Prop := fun tl H Q =>
  ∀ M, H M = Option.none → tl (EHeard T M Q) (upd H M (.lst [])) (fun v H1 => 1 ≤ sizeLine ∧ ∀ L, H1 L = Option.none → Q (.ref L) (upd H1 L (.lst [v])))
theorem heard_gives {X : Cx} (T : Txt X.K X.mg) (B : Caught T) (gu : X.A.guards = some []) {k : Nat} (hr : Room (k + 1) X.A) {g : Addr} {cdg : Value} {q : Str} :
    GivesW X ["_law_ask", "_law_raised", "_law_told", "error"] "_law_heard" (defScope s_heard) g cdg (defBody s_heard) "_law_ask" q (TTheard T) := by
  intro f c' s H Q tl act hc h
  have hr1 : Room k (cxOf CX0 X.prog X.w X.K X.mg X.base ["_law_ask", "_law_raised", "_law_told", "error"] "_law_heard" (defScope s_heard) g cdg X.A X.stack s H E0).nox.A := hr.deeper _
  have gu1 : (cxOf CX0 X.prog X.w X.K X.mg X.base ["_law_ask", "_law_raised", "_law_told", "error"] "_law_heard" (defScope s_heard) g cdg X.A X.stack s H E0).nox.A.guards = some [] := gu
  refine ⟨_, pss_cons (ps_par (i := 1) (j := 2) (by rfl) sc_heard.nd rfl rfl (by decide) rfl rfl (pa_cons pe_non (pa_cons (pe_lst pa_nil) pa_nil)) (by rfl)) (pss_cons (ps_try_keep (i := 3) (c := .ref B.R)
      (tb := fun W D σ H1 => ∃ Ech : XK, (∀ cls d H', Ech cls d H' → W cls d σ H') ∧ σ[0]? = some (some (.ref f)) ∧ H1 c' = some (LamX.CodeO c' q) ∧ tl Ech H1 (fun v H1 => 1 ≤ sizeLine ∧ ∀ L, H1 L = Option.none → D.rt (.ref L) (upd H1 L (.lst [v]))))
      rfl rfl rfl sc_heard.nd rfl rfl ⟨rfl, by decide, .inl B.m_R⟩ (fun W pn xe tk _ => ?_) (fun a oe cls d pn _ _ => pss_one (ps_set (i := 1) sc_heard.nd rfl (Or.inl rfl) (pv 3))))
      (pss_cons (ps_if (pt_val (pe_callB call_isK (by rfl) T.n_isinstance (by decide +kernel) (pa_cons (pv 1) (pa_cons (pe_glob (v := .ref T.badN.C) rfl T.badN.m rfl) pa_nil)))) (pss_one (ps_expr (pe_bm PySem.F.plainAttrs_list PySem.F.slot_list_append PySem.F.type_list_append mt_append (pv 2) (pa_cons (pe_tup (pa_cons pe_str (pa_cons (pe_callB (call_rep gu1 hr1.units) (by rfl) T.n_repr (by decide +kernel) (pa_cons (pe_fldK (pv 1)) pa_nil)) pa_nil))) pa_nil)))) pss_nil)
      (pss_cons (ps_if (pt_val (pe_callB call_isK (by rfl) T.n_isinstance (by decide +kernel) (pa_cons (pv 1) (pa_cons (pe_glob (v := .ref T.bad.C) rfl T.bad.m rfl) pa_nil)))) (pss_one (ps_expr (pe_bm PySem.F.plainAttrs_list PySem.F.slot_list_append PySem.F.type_list_append mt_append (pv 2) (pa_cons (pe_tup (pa_cons pe_str (pa_cons (pe_fldK (pv 1)) pa_nil))) pa_nil)))) pss_nil)
      (pss_cons (ps_if (pt_val (pe_callB call_isK (by rfl) T.n_isinstance (by decide +kernel) (pa_cons (pv 1) (pa_cons (pe_glob (v := .ref T.badT.C) rfl T.badT.m rfl) pa_nil)))) (pss_one (ps_expr (pe_bm PySem.F.plainAttrs_list PySem.F.slot_list_append PySem.F.type_list_append mt_append (pv 2) (pa_cons (pe_tup (pa_cons pe_str (pa_cons (pe_op op_add (pe_op op_mul (pe_fldK (pv 1)) pe_int) (pe_fldK (pv 1))) pa_nil))) pa_nil)))) pss_nil)
      (pss_one (ps_ret (pe_ifExp
        (PW.pt (pw_and (pt_cmpR op_eq (pe_callB call_len_seq (by rfl) T.n_len (by decide +kernel) (pa_cons (pv 2) pa_nil)) pe_int (nomark _))
          (pw_and1 (pt_val (pe_callB call_isK (by rfl) T.n_isinstance (by decide +kernel) (pa_cons (pv 1) (pa_cons (pe_bltn (v := .ty "ValueError") (u := .type "ValueError") (by rfl) T.n_ValueError (by decide +kernel) rfl) pa_nil)))))))
        (pe_ix ix_list (pv 2) pe_int (fun _ _ => rfl)) pe_str))))))), ?_⟩
  · refine ⟨fun pins s' σ H' D I h' => ?_⟩
    obtain ⟨Ech, hW, h1, h2, h3⟩ := h'
    refine PSs.run (pss_one (ps_ret (pe_lst (pa_cons (act _ pn xe Ech _ _ tk) pa_nil)))) pins s' σ H' D I ?_
    exact ⟨h1, h2, hW, h3⟩
  · refine ⟨(by show 0 ≤ sizeLine; decide), fun M hM => ⟨_, _, rfl, ?_⟩⟩
    refine ⟨EHeard T M Q, ?_, rfl, ?_, h M hM⟩
    · rintro cls d H' ⟨dx, rfl, hMM, hE⟩
      rcases hE with ⟨rfl, v, dd, hdx, hS, k⟩ | ⟨rfl, pt, hdx, k⟩ | ⟨rfl, i, hi, hdx, k⟩
      · obtain ⟨eX, eE, eV⟩ := B.ex T.badN.C (by simp)
        refine ⟨eX, fun a na => ⟨_, rfl, fun na2 => ?_⟩⟩
        have sa : Same H' (upd H' a (XO a (.ref T.badN.C) (some dx))) := same_new na2
        have ea : (upd H' a (XO a (.ref T.badN.C) (some dx))) a = some (XO a (.ref T.badN.C) (some dx)) := upd_same
        have ed := sa _ _ hdx
        have eM := sa _ _ hMM
        have hS := hS.same sa
        generalize upd H' a (XO a (.ref T.badN.C) (some dx)) = H2 at sa ea ed eM hS ⊢
        refine ⟨_, rfl, a, T.badN.C, dx, _, _, _, true, rfl, ea, ed, eE, fun u hu => hu, B.kN.1, true, rfl, iteT ?_⟩
        refine ⟨_, rfl, .inl ⟨rfl, _, SqL.of eM⟩, _, rfl, a, T.badN.C, dx, _, v, rfl, ea, ed, eE, T.badN.no, rfl, tNil_to ⟨v, dd, rfl, hS.dq, hS.sh, hS.dep, .inr hS.len, ?_⟩⟩
        refine ⟨(by show 2 ≤ sizeLine; decide), fun tp htp => ?_⟩
        have nM : M ≠ tp := ne_of_none eM htp
        have sT : Same H2 (upd H2 tp (.tup [.str "number", .str dd.shown])) := same_new htp
        have eT : (upd H2 tp (.tup [.str "number", .str dd.shown])) tp = some (.tup [.str "number", .str dd.shown]) := upd_same
        have ea := sT _ _ ea
        have ed := sT _ _ ed
        have eM := sT _ _ eM
        have hT0 : H' tp = Option.none := by
          match q : H' tp with
          | Option.none => rfl
          | some o => rw [sa _ _ q] at htp; cases htp
        have sA := sa.trans sT
        generalize upd H2 tp (.tup [.str "number", .str dd.shown]) = H3 at sA eT ea ed eM ⊢
        refine ⟨M, _, _, rfl, rfl, eM, (by show 0 < sizeLine; decide), ?_⟩
        have nn : ∀ b o, b ≠ M → H3 b = some o → (upd H3 M (.lst ([] ++ [V.ref tp]))) b = some o := fun b o n e => by rw [upd_ne n]; exact e
        have eM2 : (upd H3 M (.lst ([] ++ [V.ref tp]))) M = some (.lst [V.ref tp]) := upd_same
        have aM : a ≠ M := fun z => by
          rw [z, eM] at ea
          exact XO_ne (fun φ h => by cases h) (Option.some.inj ea).symm
        have dM : dx ≠ M := fun z => by rw [z, eM] at ed; cases ed
        have ea := nn _ _ aM ea
        have ed := nn _ _ dM ed
        have eT := nn _ _ (Ne.symm nM) eT
        have kk := k tp (upd H3 M (.lst ([] ++ [V.ref tp]))) hT0 (fun b o n e => nn b o n (sA b o e)) eT
        generalize upd H3 M (.lst ([] ++ [V.ref tp])) = H4 at eM2 ea ed kk ⊢
        refine ⟨_, rfl, a, T.badN.C, dx, _, _, _, false, rfl, ea, ed, eE, fun u hu => hu, B.kN.2.1, false, rfl, iteF ?_⟩
        refine ⟨_, rfl, a, T.badN.C, dx, _, _, _, false, rfl, ea, ed, eE, fun u hu => hu, B.kN.2.2, false, rfl, iteF ?_⟩
        refine ⟨_, rfl, M, _, rfl, .inl (SqL.of eM2), rfl, _, rfl, iteT ?_⟩
        refine ⟨_, rfl, a, T.badN.C, dx, _, _, _, true, rfl, ea, ed, eE, fun u hu => hu, eV, true, rfl, iteT ?_⟩
        exact ⟨_, rfl, M, _, 0, _, rfl, rfl, SqL.of eM2, rfl, kk⟩
      · obtain ⟨eX, eE, eV⟩ := B.ex T.bad.C (by simp)
        refine ⟨eX, fun a na => ⟨_, rfl, fun na2 => ?_⟩⟩
        have sa : Same H' (upd H' a (XO a (.ref T.bad.C) (some dx))) := same_new na2
        have ea : (upd H' a (XO a (.ref T.bad.C) (some dx))) a = some (XO a (.ref T.bad.C) (some dx)) := upd_same
        have ed := sa _ _ hdx
        have eM := sa _ _ hMM
        generalize upd H' a (XO a (.ref T.bad.C) (some dx)) = H2 at sa ea ed eM ⊢
        refine ⟨_, rfl, a, T.bad.C, dx, _, _, _, false, rfl, ea, ed, eE, fun u hu => hu, B.kW.1, false, rfl, iteF ?_⟩
        refine ⟨_, rfl, a, T.bad.C, dx, _, _, _, true, rfl, ea, ed, eE, fun u hu => hu, B.kW.2.1, true, rfl, iteT ?_⟩
        refine ⟨_, rfl, .inl ⟨rfl, _, SqL.of eM⟩, _, rfl, a, T.bad.C, dx, _, _, rfl, ea, ed, eE, T.bad.no, rfl, ?_⟩
        refine ⟨(by show 2 ≤ sizeLine; decide), fun tp htp => ?_⟩
        have nM : M ≠ tp := ne_of_none eM htp
        have sT : Same H2 (upd H2 tp (.tup [.str "wheel", .str pt])) := same_new htp
        have eT : (upd H2 tp (.tup [.str "wheel", .str pt])) tp = some (.tup [.str "wheel", .str pt]) := upd_same
        have ea := sT _ _ ea
        have ed := sT _ _ ed
        have eM := sT _ _ eM
        have hT0 : H' tp = Option.none := by
          match q : H' tp with
          | Option.none => rfl
          | some o => rw [sa _ _ q] at htp; cases htp
        have sA := sa.trans sT
        generalize upd H2 tp (.tup [.str "wheel", .str pt]) = H3 at sA eT ea ed eM ⊢
        refine ⟨M, _, _, rfl, rfl, eM, (by show 0 < sizeLine; decide), ?_⟩
        have nn : ∀ b o, b ≠ M → H3 b = some o → (upd H3 M (.lst ([] ++ [V.ref tp]))) b = some o := fun b o n e => by rw [upd_ne n]; exact e
        have eM2 : (upd H3 M (.lst ([] ++ [V.ref tp]))) M = some (.lst [V.ref tp]) := upd_same
        have aM : a ≠ M := fun z => by
          rw [z, eM] at ea
          exact XO_ne (fun φ h => by cases h) (Option.some.inj ea).symm
        have dM : dx ≠ M := fun z => by rw [z, eM] at ed; cases ed
        have ea := nn _ _ aM ea
        have ed := nn _ _ dM ed
        have eT := nn _ _ (Ne.symm nM) eT
        have kk := k tp (upd H3 M (.lst ([] ++ [V.ref tp]))) hT0 (fun b o n e => nn b o n (sA b o e)) eT
        generalize upd H3 M (.lst ([] ++ [V.ref tp])) = H4 at eM2 ea ed kk ⊢
        refine ⟨_, rfl, a, T.bad.C, dx, _, _, _, false, rfl, ea, ed, eE, fun u hu => hu, B.kW.2.2, false, rfl, iteF ?_⟩
        refine ⟨_, rfl, M, _, rfl, .inl (SqL.of eM2), rfl, _, rfl, iteT ?_⟩
        refine ⟨_, rfl, a, T.bad.C, dx, _, _, _, true, rfl, ea, ed, eE, fun u hu => hu, eV, true, rfl, iteT ?_⟩
        exact ⟨_, rfl, M, _, 0, _, rfl, rfl, SqL.of eM2, rfl, kk⟩
      · obtain ⟨eX, eE, eV⟩ := B.ex T.badT.C (by simp)
        refine ⟨eX, fun a na => ⟨_, rfl, fun na2 => ?_⟩⟩
        have sa : Same H' (upd H' a (XO a (.ref T.badT.C) (some dx))) := same_new na2
        have ea : (upd H' a (XO a (.ref T.badT.C) (some dx))) a = some (XO a (.ref T.badT.C) (some dx)) := upd_same
        have ed := sa _ _ hdx
        have eM := sa _ _ hMM
        generalize upd H' a (XO a (.ref T.badT.C) (some dx)) = H2 at sa ea ed eM ⊢
        refine ⟨_, rfl, a, T.badT.C, dx, _, _, _, false, rfl, ea, ed, eE, fun u hu => hu, B.kT.1, false, rfl, iteF ?_⟩
        refine ⟨_, rfl, a, T.badT.C, dx, _, _, _, false, rfl, ea, ed, eE, fun u hu => hu, B.kT.2.1, false, rfl, iteF ?_⟩
        refine ⟨_, rfl, a, T.badT.C, dx, _, _, _, true, rfl, ea, ed, eE, fun u hu => hu, B.kT.2.2, true, rfl, iteT ?_⟩
        refine ⟨_, rfl, .inl ⟨rfl, _, SqL.of eM⟩, _, rfl, a, T.badT.C, dx, _, _, rfl, ea, ed, eE, T.badT.no1, rfl, _, _, rfl, rfl, .inl ⟨by decide, by decide⟩, _, rfl, a, T.badT.C, dx, _, _, rfl, ea, ed, eE, T.badT.no2, rfl, _, _, rfl, rfl, ?_⟩
        have ev : ((0 : Int) * 1000 + (i : Nat)) = ((i : Nat) : Int) := by omega
        refine ⟨(by show 2 ≤ sizeLine; decide), fun tp htp => ?_⟩
        have nM : M ≠ tp := ne_of_none eM htp
        have sT : Same H2 (upd H2 tp (.tup [.str "text", .int (0 * 1000 + (i : Nat))])) := same_new htp
        have eT : (upd H2 tp (.tup [.str "text", .int (0 * 1000 + (i : Nat))])) tp = some (.tup [.str "text", .int (i : Nat)]) := by rw [upd_same, ev]
        have ea := sT _ _ ea
        have ed := sT _ _ ed
        have eM := sT _ _ eM
        have hT0 : H' tp = Option.none := by
          match q : H' tp with
          | Option.none => rfl
          | some o => rw [sa _ _ q] at htp; cases htp
        have sA := sa.trans sT
        generalize upd H2 tp (.tup [.str "text", .int (0 * 1000 + (i : Nat))]) = H3 at sA eT ea ed eM ⊢
        refine ⟨M, _, _, rfl, rfl, eM, (by show 0 < sizeLine; decide), ?_⟩
        have nn : ∀ b o, b ≠ M → H3 b = some o → (upd H3 M (.lst ([] ++ [V.ref tp]))) b = some o := fun b o n e => by rw [upd_ne n]; exact e
        have eM2 : (upd H3 M (.lst ([] ++ [V.ref tp]))) M = some (.lst [V.ref tp]) := upd_same
        have aM : a ≠ M := fun z => by
          rw [z, eM] at ea
          exact XO_ne (fun φ h => by cases h) (Option.some.inj ea).symm
        have dM : dx ≠ M := fun z => by rw [z, eM] at ed; cases ed
        have ea := nn _ _ aM ea
        have ed := nn _ _ dM ed
        have eT := nn _ _ (Ne.symm nM) eT
        have kk := k tp (upd H3 M (.lst ([] ++ [V.ref tp]))) hT0 (fun b o n e => nn b o n (sA b o e)) eT
        generalize upd H3 M (.lst ([] ++ [V.ref tp])) = H4 at eM2 ea ed kk ⊢
        refine ⟨_, rfl, M, _, rfl, .inl (SqL.of eM2), rfl, _, rfl, iteT ?_⟩
        refine ⟨_, rfl, a, T.badT.C, dx, _, _, _, true, rfl, ea, ed, eE, fun u hu => hu, eV, true, rfl, iteT ?_⟩
        exact ⟨_, rfl, M, _, 0, _, rfl, rfl, SqL.of eM2, rfl, kk⟩
    · rw [upd_ne]
      · exact hc
      · rintro rfl
        rw [hc] at hM
        cases hM

/-! ### the draws -/
def spPen (K : PySem.W.Frag) : Sp := fun vs H Q _ => ∃ (a : Addr) (ns : List Int), vs = [.ref a] ∧ SqL K H a (ns.map V.int) ∧ ns.length ≤ 63 ∧ ∀ (p : Addr) (H' : Hp), Same H H' → Pen H' p 0 → Q (.ref p) H'
theorem ok_pen (T : Txt K mg) : FnOk P w K mg base CX0 1 T.a_pen T.fd_pen ["_law_script"] (spPen K) := by
  refine T.F_pen.ok sc_pen (fun vs H Q E h => ?_) (fun cdv A outer s H vs Q E hr h => ?_)
  · obtain ⟨a, ns, rfl, _⟩ := h; rfl
  · obtain ⟨a, ns, rfl, hS, hl, k⟩ := h
    refine ⟨_, pss_one (ps_ret (pe_lst (pa_cons (pe_callTy call_list_of (by rfl) T.n_list (by decide +kernel) (pa_cons (pe_slice sl_list (pv 0) (po_none) (po_some (pe_int))) (pa_nil))) (pa_cons (pe_int) (pa_cons (pe_int) (pa_nil)))))), ?_⟩
    obtain ⟨ms, em, lm⟩ := cut_ints ns none (some 63)
    refine ⟨_, rfl, _, rfl, a, _, rfl, hS, fun q hq => ?_⟩
    refine ⟨q, _, rfl, .inl (SqL.of upd_same), fun l hl => ?_⟩
    refine ⟨(by show 3 ≤ sizeLine; decide), fun p hp => k p _ ?_ ?_⟩
    · exact (same_new hq).trans ((same_new hl).trans (same_new hp))
    · refine ⟨l, ms, 0, 0, upd_same, ?_, by omega, by omega, by omega, by omega⟩
      rw [upd_ne (ne_of_none upd_same hp), upd_same, em]
def spDraw : Sp := fun vs H Q _ => ∃ (p : Addr) (m : Int) (n : Nat), vs = [.ref p, .int m] ∧ 0 < m ∧ m < 1267650600228229401496703205376 ∧ Pen H p n ∧ n < 100000 ∧ ∀ (r : Int) (H' : Hp), 0 ≤ r → r < m → Pen H' p (n + 1) → Fr p H H' → Q (.int r) H'
theorem ok_draw (T : Txt K mg) : FnOk P w K mg base CX0 1 T.a_draw T.fd_draw ["_law_pen_here", "_law_many"] spDraw := by
  refine T.F_draw.ok sc_draw (fun vs H Q E h => ?_) (fun cdv A outer s H vs Q E hr h => ?_)
  · obtain ⟨p, m, n, rfl, _⟩ := h; rfl
  · obtain ⟨p, m, n, rfl, hm, hm2, ⟨c, ns, i, g, hp, hc, i0, i1, g0, hl⟩, hn, k⟩ := h
    have cp : c ≠ p := pen_ne hp hc
    have mb : m.natAbs < 2 ^ 100 := by omega
    refine ⟨_, pss_cons (ps_if (pt_cmpR op_gt (pe_ix ix_list (pv 0) (pe_int) (fun _ _ => rfl)) (pe_int) (nomark _)) (pss_cons (ps_set (i := 2) sc_draw.nd rfl (Or.inl rfl) (pe_op op_modN (pe_callTy call_int1 (by rfl) T.n_int (by decide +kernel) (pa_cons (pe_ix ix_list (pv 0) (pe_int) (fun _ _ => rfl)) (pa_nil))) (pv 1)))
      (pss_cons (ps_asg (pe_op op_fdivW (pe_callTy call_int1 (by rfl) T.n_int (by decide +kernel) (pa_cons (pe_ix ix_list (pv 0) (pe_int) (fun _ _ => rfl)) (pa_nil))) (pv 1)) (pg_sub (pv 0) (pe_int) set_list))
      (pss_one (ps_ret (pv 2))))) (pss_nil))
      (pss_cons (ps_set (i := 3) sc_draw.nd rfl (Or.inl rfl) (pe_ix ix_list (pv 0) (pe_int) (fun _ _ => rfl)))
      (pss_cons (ps_asg (pe_op op_add (pv 3) (pe_int)) (pg_sub (pv 0) (pe_int) set_list))
      (pss_cons (ps_set (i := 4) sc_draw.nd rfl (Or.inl rfl) (pe_op op_add (pe_op op_mul (pe_int) (pv 3)) (pe_int)))
      (C8.pss_cut (ps_if (pt_cmpR (op_neD hr.units) (pe_ix ix_list (pv 0) (pe_int) (fun _ _ => rfl)) (pe_lst (pa_nil)) (nomark _)) (pss_one (ps_set (i := 4) sc_draw.nd rfl (Or.inl rfl) (pe_ix ix_list (pe_ix ix_list (pv 0) (pe_int) (fun _ _ => rfl)) (pe_op op_modN (pe_callTy call_int1 (by rfl) T.n_int (by decide +kernel) (pa_cons (pv 3) (pa_nil))) (pe_callB call_len_seq (by rfl) T.n_len (by decide +kernel) (pa_cons (pe_ix ix_list (pv 0) (pe_int) (fun _ _ => rfl)) (pa_nil)))) (fun _ _ => rfl)))) (pss_nil))
      (C8.pss_cut (ps_if (PW.pt (pw_and (pt_cmpR op_lt (pv 3) (pe_callB call_len_seq (by rfl) T.n_len (by decide +kernel) (pa_cons (pe_ix ix_list (pv 0) (pe_int) (fun _ _ => rfl)) (pa_nil))) (nomark _)) (pw_and1 (pt_cmpR op_ge (pe_callB call_abs (by rfl) T.n_abs (by decide +kernel) (pa_cons (pv 4) (pa_nil))) (pe_op op_pow (pe_int) (pe_int)) (nomark _))))) (pss_cons (ps_set (i := 5) sc_draw.nd rfl (Or.inl rfl) (pe_op op_add (pe_op op_mul (pe_int) (pe_op op_sub (pe_callB call_abs (by rfl) T.n_abs (by decide +kernel) (pa_cons (pv 4) (pa_nil))) (pe_op op_pow (pe_int) (pe_int)))) (pe_callTy call_int1 (by rfl) T.n_int (by decide +kernel) (pa_cons (pe_cmpR op_lt (pv 4) (pe_int) (nomark _)) (pa_nil)))))
      (pss_cons (ps_asg (pe_op op_fdivW (pe_callTy call_int1 (by rfl) T.n_int (by decide +kernel) (pa_cons (pv 5) (pa_nil))) (pv 1)) (pg_sub (pv 0) (pe_int) set_list))
      (pss_one (ps_ret (pe_op op_modN (pe_callTy call_int1 (by rfl) T.n_int (by decide +kernel) (pa_cons (pv 5) (pa_nil))) (pv 1)))))) (pss_nil))
      (pss_cons (ps_set (i := 6) sc_draw.nd rfl (Or.inl rfl) (pe_op op_modN (pe_callTy call_int1 (by rfl) T.n_int (by decide +kernel) (pa_cons (pe_op op_pow (pe_op op_add (pe_op op_add (pe_op op_modN (pe_callTy call_int1 (by rfl) T.n_int (by decide +kernel) (pa_cons (pv 4) (pa_nil))) (pe_int)) (pe_op op_mul (pe_int) (pv 3))) (pe_int)) (pe_int)) (pa_nil))) (pe_int)))
      (pss_cons (ps_set (i := 6) sc_draw.nd rfl (Or.inl rfl) (pe_op op_modN (pe_callTy call_int1 (by rfl) T.n_int (by decide +kernel) (pa_cons (pe_op op_pow (pe_op op_add (pe_op op_add (pe_op op_mul (pv 6) (pe_op op_add (pe_op op_mul (pe_int) (pv 3)) (pe_int))) (pe_op op_mul (pe_op op_mul (pe_int) (pv 3)) (pv 3))) (pe_int)) (pe_int)) (pa_nil))) (pe_int)))
      (pss_one (ps_ret (pe_op op_modN (pe_callTy call_int1 (by rfl) T.n_int (by decide +kernel) (pa_cons (pe_op op_fdivW (pv 6) (pe_int)) (pa_nil))) (pv 1))))))))))), ?_⟩
    refine ⟨_, rfl, p, _, _, _, rfl, rfl, SqL.of hp, rfl, _, _, rfl, rfl, _, rfl, ?_⟩
    refine ite2 (fun hg => ?_) (fun hg => ?_)
    · refine ⟨_, rfl, p, _, _, _, rfl, rfl, SqL.of hp, rfl, .inl ⟨_, rfl, ?_⟩⟩
      refine ⟨_, rfl, _, _, rfl, rfl, (by omega), ?_⟩
      refine ⟨_, rfl, p, _, _, _, rfl, rfl, SqL.of hp, rfl, .inl ⟨_, rfl, ?_⟩⟩
      refine ⟨_, rfl, _, _, rfl, rfl, wide_div hm mb (by decide) (by decide), ?_⟩
      refine ⟨_, rfl, p, _, _, _, rfl, rfl, hp, rfl, _, rfl, ?_⟩
      have fm := fmod_pos (x := g) hm
      refine k _ _ fm.1 fm.2 ⟨c, ns, i, g / m, upd_same, ?_, i0, by omega, Int.ediv_nonneg g0 (by omega), hl⟩ (fr_upd hp)
      rw [upd_ne cp]; exact hc
    · refine ⟨_, rfl, p, _, _, _, rfl, rfl, SqL.of hp, rfl, ?_⟩
      refine ⟨_, rfl, _, _, rfl, rfl, _, rfl, p, _, _, _, rfl, rfl, hp, rfl, ?_⟩
      -- the index is one more
      have f1 : Fr p H (upd H p (.lst [.ref c, .int (i + 1), .int g])) := fr_upd hp
      have hp1 : (upd H p (.lst [.ref c, .int (i + 1), .int g])) p = some (.lst [.ref c, .int (i + 1), .int g]) := upd_same
      have hc1 : (upd H p (.lst [.ref c, .int (i + 1), .int g])) c = some (.lst (ns.map V.int)) := by rw [upd_ne cp]; exact hc
      show _
      refine ⟨_, rfl, _, _, rfl, rfl, .inl ⟨by decide, by decide⟩, _, _, rfl, rfl, ?_⟩
      refine ⟨fun σ' H' => ∃ raw : Int, σ' = [some (.ref p), some (.int m), Option.none, some (.int i), some (.int raw), Option.none, Option.none] ∧ Same (upd H p (.lst [.ref c, .int (i + 1), .int g])) H', ?_, ?_⟩
      · refine ⟨_, rfl, p, _, _, _, rfl, rfl, SqL.of hp1, rfl, Nat.zero_le _, fun l hl0 => ?_⟩
        refine ⟨.list (ns.map PyData.int), .list [], .lst (SqL.of (same_new hl0 _ _ hc1)) (dp_ints ns), .lst (SqL.of upd_same) .nil, PySem.W.ke_shaped_ints ns, by decide +kernel, _, rfl, ?_⟩
        have s1 := same_new (o := .lst []) hl0
        cases ns with
        | nil => exact iteF ⟨_, rfl, s1⟩
        | cons z r =>
          refine iteT ?_
          refine ⟨_, rfl, p, _, _, _, rfl, rfl, SqL.of (s1 _ _ hp1), rfl, ?_⟩
          refine ⟨_, rfl, .inl ⟨_, rfl, ?_⟩⟩
          refine ⟨_, rfl, p, _, _, _, rfl, rfl, SqL.of (s1 _ _ hp1), rfl, c, _, rfl, .inl (SqL.of (s1 _ _ hc1)), _, _, rfl, rfl, ?_⟩
          have lp : (0 : Int) < (((z :: r).map V.int).length : Nat) := by rw [List.length_map, List.length_cons]; omega
          have fm := fmod_pos (x := i) lp
          have fm2 : i.fmod (((z :: r).map V.int).length : Nat) < (((z :: r).length : Nat) : Int) := by have := fm.2; rw [List.length_map] at this; rw [List.length_map]; exact this
          obtain ⟨y, hy⟩ := atI_in fm.1 fm2
          exact ⟨by omega, c, _, _, _, rfl, rfl, SqL.of (s1 _ _ hc1), hy, y, rfl, s1⟩
      · rintro σ' H' ⟨raw, rfl, s1⟩
        have hp2 := s1 _ _ hp1
        have hc2 := s1 _ _ hc1
        have f2 : Fr p H H' := f1.trans (same_fr s1)
        have penE : ∀ g' : Int, 0 ≤ g' → Pen (upd H' p (.lst [.ref c, .int (i + 1), .int g'])) p (n + 1) := fun g' h' => ⟨c, ns, i + 1, g', upd_same, by rw [upd_ne cp]; exact hc2, by omega, by omega, h', hl⟩
        refine ⟨fun σ'' H'' => σ'' = [some (.ref p), some (.int m), Option.none, some (.int i), some (.int raw), Option.none, Option.none] ∧ H'' = H', ?_, ?_⟩
        rotate_left
        · rintro σ'' H'' ⟨rfl, rfl⟩
          refine ⟨_, rfl, .inl ⟨_, rfl, ?_⟩⟩
          refine ⟨_, _, rfl, rfl, (by show (_ : Int) ≠ 0; decide), _, rfl, _, _, rfl, rfl, .inl ⟨by decide, by decide⟩, _, _, rfl, rfl, _, _, rfl, rfl, ?_⟩
          have r1 := fmod_pos (x := raw) (m := 2147483549) (by decide)
          refine ⟨_, _, rfl, rfl, ⟨by decide, by decide, stir1 r1.1 (by omega) i0 (by omega) (by decide) (by decide) (by decide) (by decide)⟩, .inl ⟨_, rfl, ?_⟩⟩
          refine ⟨_, _, rfl, rfl, (by show (_ : Int) ≠ 0; decide), ?_⟩
          have r2 : ∀ x : Int, 0 ≤ x.fmod 2147483629 ∧ x.fmod 2147483629 < 2147483629 := fun x => fmod_pos (by decide)
          refine ⟨_, rfl, _, rfl, _, _, rfl, rfl, .inl ⟨by decide, by decide⟩, _, _, rfl, rfl, _, _, rfl, rfl, .inl (small64 (r2 _).1 (Int.lt_trans (r2 _).2 (by decide))), ?_⟩
          refine ⟨_, rfl, _, _, rfl, rfl, .inl ⟨by decide, by decide⟩, _, rfl, _, _, rfl, rfl, .inr ⟨by omega, by omega⟩, _, _, rfl, rfl, _, _, rfl, rfl, ?_⟩
          refine ⟨_, _, rfl, rfl, ⟨by decide, by decide, stir2 (r2 _).1 (Int.lt_trans (r2 _).2 (by decide)) i0 (by omega) (by decide) (by decide) (by decide) (by decide) (by decide) (by decide)⟩, .inl ⟨_, rfl, ?_⟩⟩
          refine ⟨_, _, rfl, rfl, (by show (_ : Int) ≠ 0; decide), ?_⟩
          refine ⟨_, rfl, _, _, rfl, rfl, wide_div (b := 10) (by decide) (by decide) (by decide) (by decide), .inl ⟨_, rfl, ?_⟩⟩
          refine ⟨_, rfl, _, _, rfl, rfl, (by omega), ?_⟩
          have fm := fun x => fmod_pos (x := x) hm
          exact k _ _ (fm _).1 (fm _).2 ⟨c, ns, i + 1, g, hp2, hc2, by omega, by omega, g0, hl⟩ f2
        refine ⟨_, rfl, _, rfl, p, _, _, _, rfl, rfl, SqL.of hp2, rfl, c, _, rfl, .inl (SqL.of hc2), _, _, rfl, rfl, _, rfl, ?_⟩
        refine ite2 (fun hlt => ?_) (fun hlt => ?_)
        · refine ⟨_, rfl, _, rfl, _, _, rfl, rfl, ⟨by decide, by decide, by decide⟩, _, _, rfl, rfl, _, rfl, ?_⟩
          refine ite2 (fun hge => ?_) (fun hge => ?_)
          · have hge := of_decide_eq_true hge
            refine ⟨_, rfl, _, rfl, _, _, rfl, rfl, ⟨by decide, by decide, by decide⟩, _, _, rfl, rfl, _, _, rfl, rfl, .inl ⟨by decide, by decide⟩, ?_⟩
            refine ⟨_, rfl, _, _, rfl, rfl, .inr ⟨_, rfl, ?_⟩⟩
            refine ⟨_, _, rfl, rfl, ?_⟩
            have gpos : (0 : Int) ≤ 2 * ((if raw < 0 then -raw else raw) - 10 ^ (18 : Int).toNat) + (if decide (raw < 0) = true then 1 else 0) := by
              have : (0 : Int) ≤ (if decide (raw < 0) = true then 1 else 0) := by split <;> omega
              omega
            refine ⟨_, rfl, .inl ⟨_, rfl, ?_⟩⟩
            refine ⟨_, rfl, _, _, rfl, rfl, wide_div hm mb (by decide) (by decide), ?_⟩
            refine ⟨_, rfl, p, _, _, _, rfl, rfl, hp2, rfl, ?_⟩
            refine ⟨_, rfl, .inl ⟨_, rfl, ?_⟩⟩
            refine ⟨_, rfl, _, _, rfl, rfl, (by omega), ?_⟩
            have fm := fun x => fmod_pos (x := x) hm
            exact k _ _ (fm _).1 (fm _).2 (penE _ (Int.ediv_nonneg gpos (by omega))) (f2.trans (fr_upd hp2))
          · exact ⟨rfl, rfl⟩
        · exact ⟨rfl, rfl⟩

def spPick (K : PySem.W.Frag) : Sp := fun vs H Q _ => ∃ (p l : Addr) (xs : List V) (n : Nat), vs = [.ref p, .ref l] ∧ SqL K H l xs ∧ l ≠ p ∧ 0 < xs.length ∧ xs.length < 1000000 ∧ Pen H p n ∧ n < 100000 ∧ ∀ (x : V) (H' : Hp), x ∈ xs → Pen H' p (n + 1) → Fr p H H' → Q x H'
theorem ok_pick (T : Txt K mg) : FnOk P w K mg base CX0 2 T.a_pick T.fd_pick ["_law_pen_here", "_law_some"] (spPick K) := by
  refine T.F_pick.ok sc_pick (fun vs H Q E h => ?_) (fun cdv A outer s H vs Q E hr h => ?_)
  · obtain ⟨p, l, xs, n, rfl, _⟩ := h; rfl
  · obtain ⟨p, l, xs, n, rfl, hS, hne, h0, h1, hP, hn, k⟩ := h
    refine ⟨_, pss_one (ps_ret (pe_ix ix_list (pv 1) (pe_call (ok_draw T) (hr.mono (by decide)) rfl T.m_draw T.F_draw.kp (b_draw T) .nil pass0 (pa_cons (pv 0) (pa_cons (pe_callB call_len_seq (by rfl) T.n_len (by decide +kernel) (pa_cons (pv 1) (pa_nil))) (pa_nil)))) (fun _ _ => rfl))), ?_⟩
    refine ⟨_, rfl, _, rfl, _, rfl, l, xs, rfl, .inl hS, p, _, n, rfl, (by omega), (by omega), hP, hn, fun r H' r0 r1 hP' fr => ?_⟩
    obtain ⟨x, hx, he⟩ := atI_any r0 r1
    exact ⟨l, xs, _, x, rfl, rfl, fr.seq hne hS, he, k x H' hx hP' fr⟩
/-! ### what is neither the pen nor a table stays -/
open Classical in
noncomputable def core (p : Addr) (H : Hp) : Hp := fun b => if b = p ∨ ∃ ps, H b = some (.tbl ps) then Option.none else H b
theorem core_sub {p : Addr} {H : Hp} : Same (core p H) H := fun b o e => by
  unfold core at e
  split at e
  · cases e
  · exact e
theorem core_at {p : Addr} {H : Hp} {a : Addr} {o : HO} (h : H a = some o) (n : a ≠ p) (nt : ∀ ps, o ≠ .tbl ps) : core p H a = some o := by
  unfold core
  rw [if_neg]
  · exact h
  · rintro (z | ⟨ps, z⟩)
    · exact n z
    · rw [h] at z
      exact nt ps (Option.some.inj z)
theorem core_of {p : Addr} {H : Hp} {a : Addr} {o : HO} (h : core p H a = some o) : a ≠ p ∧ (∀ ps, o ≠ .tbl ps) ∧ H a = some o := by
  have h2 := core_sub _ _ h
  unfold core at h
  split at h
  · cases h
  · rename_i n
    exact ⟨fun z => n (.inl z), fun ps z => n (.inr ⟨ps, z ▸ h2⟩), h2⟩
theorem core_fr {p : Addr} {H H' : Hp} (e : Fr p H H') : Same (core p H) H' := fun b o q => by
  obtain ⟨q1, _, q3⟩ := core_of q
  exact e b o q1 q3
theorem core_same {p : Addr} {H H' : Hp} (e : Same H H') : Same (core p H) H' := fun b o q => e b o (core_of q).2.2
theorem core_up {p : Addr} {H H' : Hp} (e : Same (core p H) H') : Same (core p H) (core p H') := fun b o q => by
  obtain ⟨q1, q2, _⟩ := core_of q
  exact core_at (e b o q) q1 q2
theorem SqL.same {K : PySem.W.Frag} {H H' : Hp} {a : Addr} {xs : List V} (s : Same H H') (h : SqL K H a xs) : SqL K H' a xs := by
  rcases h with (h | ⟨o, h⟩) | h
  · exact .inl (.inl (s _ _ h))
  · exact .inl (.inr ⟨o, s _ _ h⟩)
  · exact .inr h

theorem op_repS {X : Cx} : OpR X (binaryOp .Mult) (fun x y H Q => ∃ z n, x = .str z ∧ y = .int n ∧ MulOk z n ∧ Q (.str (Txt.mul z n)) H) := by
  intro pins s σ H x y v u Q I rx ry h
  obtain ⟨z, n, rfl, rfl, hm, q⟩ := h
  obtain ⟨t, rfl⟩ := rx
  obtain ⟨t', rfl⟩ := ry
  exact SB.mul hm fun t2 k => ⟨.str (Txt.mul z n), H, I.tok _, ⟨t2, rfl⟩, q⟩
/-- at t the parts of a wheel, and its trust -/
def PlainAt (H : Hp) (t : Addr) (tr : Bool) (p b a : Int) : Prop := H t = some (.tup [.int p, .int b, .int a, .bl tr])
def spWheel : Sp := fun vs H Q _ => ∃ (q : Addr) (n : Nat), vs = [.ref q] ∧ Pen H q n ∧ n < 90000 ∧ ∀ (t : Addr) (H' : Hp) (tr : Bool) (p b a : Int), PlainAt H' t tr p b a → Parts tr p b a → Pen H' q (n + 6) → Fr q H H' → t ≠ q → Q (.ref t) H'
theorem ok_wheel (T : Txt K mg) : FnOk P w K mg base CX0 3 T.a_wheel T.fd_wheel ["_law_pen_here"] spWheel := by
  refine T.F_wheel.ok sc_wheel (fun vs H Q E h => ?_) (fun cdv A outer s H vs Q E hr h => ?_)
  · obtain ⟨q, n, rfl, _⟩ := h; rfl
  · obtain ⟨q, n, rfl, hP, hn, k⟩ := h
    refine ⟨_, pss_cons (ps_par (i := 1) (j := 2) (by rfl) sc_wheel.nd rfl rfl (by decide) rfl rfl (pa_cons (pe_call (ok_pick T) (hr.mono (by decide)) rfl T.m_pick T.F_pick.kp (b_pick T) .nil pass0 (pa_cons (pv 0) (pa_cons (pe_lst (pa_cons (pe_int) (pa_cons (pe_int) (pa_cons (pe_op op_pow (pe_int) (pe_int)) (pa_cons (pe_op op_add (pe_int) (pe_call (ok_draw T) (hr.mono (by decide)) rfl T.m_draw T.F_draw.kp (b_draw T) .nil pass0 (pa_cons (pv 0) (pa_cons (pe_int) (pa_nil))))) (pa_nil)))))) (pa_nil)))) (pa_cons (pe_call (ok_draw T) (hr.mono (by decide)) rfl T.m_draw T.F_draw.kp (b_draw T) .nil pass0 (pa_cons (pv 0) (pa_cons (pe_int) (pa_nil)))) (pa_nil))) (by rfl))
      (pss_cons (ps_if (pt_cmpR op_eq (pv 2) (pe_int) (nomark _)) (pss_one (ps_ret (pe_tup (pa_cons (pv 1) (pa_cons (pe_int) (pa_cons (pe_int) (pa_cons (pe_cmpR op_eq (pe_call (ok_draw T) (hr.mono (by decide)) rfl T.m_draw T.F_draw.kp (b_draw T) .nil pass0 (pa_cons (pv 0) (pa_cons (pe_int) (pa_nil)))) (pe_int) (nomark _)) (pa_nil)))))))) (pss_nil))
      (pss_cons (ps_if (pt_cmpR op_eq (pv 2) (pe_int) (nomark _)) (pss_cons (ps_set (i := 3) sc_wheel.nd rfl (Or.inl rfl) (pe_call (ok_pick T) (hr.mono (by decide)) rfl T.m_pick T.F_pick.kp (b_pick T) .nil pass0 (pa_cons (pv 0) (pa_cons (pe_lst (pa_cons (pe_int) (pa_cons (pe_int) (pa_cons (pe_op op_pow (pe_int) (pe_int)) (pa_nil))))) (pa_nil)))))
      (pss_one (ps_ret (pe_tup (pa_cons (pv 1) (pa_cons (pv 3) (pa_cons (pv 3) (pa_cons (pe_bl) (pa_nil))))))))) (pss_nil))
      (pss_one (ps_ret (pe_tup (pa_cons (pv 1) (pa_cons (pe_call (ok_draw T) (hr.mono (by decide)) rfl T.m_draw T.F_draw.kp (b_draw T) .nil pass0 (pa_cons (pv 0) (pa_cons (pe_int) (pa_nil)))) (pa_cons (pe_ifExp (pt_cmpR op_eq (pv 2) (pe_int) (nomark _)) (pe_int) (pe_call (ok_pick T) (hr.mono (by decide)) rfl T.m_pick T.F_pick.kp (b_pick T) .nil pass0 (pa_cons (pv 0) (pa_cons (pe_lst (pa_cons (pe_int) (pa_cons (pe_op op_pow (pe_int) (pe_int)) (pa_cons (pe_call (ok_draw T) (hr.mono (by decide)) rfl T.m_draw T.F_draw.kp (b_draw T) .nil pass0 (pa_cons (pv 0) (pa_cons (pe_int) (pa_nil)))) (pa_nil))))) (pa_nil))))) (pa_cons (pe_bl) (pa_nil)))))))))), ?_⟩
    have hw : CPow 10 12 := ⟨by decide, by decide, by decide⟩
    have e12 : (10 : Int) ^ Int.toNat 12 = 1000000000000 := by decide
    refine ⟨_, rfl, _, _, rfl, rfl, hw, _, rfl, q, 99, n, rfl, (by decide), (by decide), hP, (by omega), fun r H1 r0 r1 hP1 f1 => ?_⟩
    refine ⟨_, _, rfl, rfl, (by show 4 ≤ sizeLine; decide), fun l hl => ?_⟩
    have sl := same_new (o := .lst [V.int 2, V.int 7, V.int (10 ^ Int.toNat 12), V.int (2 + r)]) hl
    refine ⟨q, l, [V.int 2, V.int 7, V.int (10 ^ Int.toNat 12), V.int (2 + r)], n + 1, rfl, SqL.of upd_same, hP1.neq hl, (by show 0 < 4; decide), (by show 4 < 1000000; decide), hP1.same sl, by omega, fun x H2 hx hP2 f2 => ?_⟩
    have hp : ∃ p : Int, x = .int p ∧ 2 ≤ p ∧ p ≤ 1000000000000 := by
      rw [e12] at hx
      simp only [List.mem_cons, List.not_mem_nil, or_false] at hx
      rcases hx with rfl | rfl | rfl | rfl
      · exact ⟨_, rfl, by decide, by decide⟩
      · exact ⟨_, rfl, by decide, by decide⟩
      · exact ⟨_, rfl, by decide, by decide⟩
      · exact ⟨_, rfl, by omega, by omega⟩
    obtain ⟨p, rfl, p1, p2⟩ := hp
    have F2 : Fr q H H2 := f1.trans ((same_fr sl).trans f2)
    clear hx sl f2 f1 hP1
    refine ⟨_, rfl, q, 5, n + 1 + 1, rfl, (by decide), (by decide), hP2, (by omega), fun kd H3 k0 k1 hP3 f3 => ⟨_, _, rfl, ?_⟩⟩
    have F3 := F2.trans f3
    clear F2 f3 hP2
    refine ⟨_, rfl, rfl, _, rfl, ?_⟩
    have fin : ∀ {H4 : Hp} {m : Nat} (tr : Bool) (p b a : Int) (t : Addr), Parts tr p b a → Pen H4 q m → m ≤ n + 6 → Fr q H H4 → H4 t = Option.none → Q (.ref t) (upd H4 t (.tup [.int p, .int b, .int a, .bl tr])) := fun {H4 m} tr p b a t hpa hp4 hm f4 ht =>
      k t _ tr p b a upd_same hpa ((hp4.mono hm).same (same_new ht)) (f4.trans (same_fr (same_new ht))) (hp4.neq ht)
    refine ite2 (fun hk => ?_) (fun hk => ?_)
    · refine ⟨_, rfl, _, rfl, q, 2, n + 1 + 1 + 1, rfl, (by decide), (by decide), hP3, (by omega), fun r2 H4 a0 a1 hP4 f4 => ⟨rfl, tNil_to ⟨(by show 4 ≤ sizeLine; decide), fun t ht => ?_⟩⟩⟩
      exact fin _ p 0 0 t ⟨⟨p1, p2⟩, ⟨by decide, by decide⟩, ⟨by decide, by decide⟩, fun _ => ⟨rfl, rfl⟩⟩ hP4 (by omega) (F3.trans f4) ht
    · refine ⟨_, rfl, rfl, _, rfl, ?_⟩
      refine ite2 (fun hk => ?_) (fun hk => ?_)
      · refine ⟨_, rfl, _, _, rfl, rfl, hw, (by show 3 ≤ sizeLine; decide), fun l2 hl2 => ?_⟩
        have sl2 := same_new (o := .lst [V.int 1, V.int 5, V.int (10 ^ Int.toNat 12)]) hl2
        refine ⟨q, l2, [V.int 1, V.int 5, V.int (10 ^ Int.toNat 12)], n + 1 + 1 + 1, rfl, SqL.of upd_same, hP3.neq hl2, (by show 0 < 3; decide), (by show 3 < 1000000; decide), hP3.same sl2, by omega, fun x H4 hx hP4 f4 => ?_⟩
        have hp : ∃ b : Int, x = .int b ∧ 0 ≤ b ∧ b ≤ 1000000000000 := by
          rw [e12] at hx
          simp only [List.mem_cons, List.not_mem_nil, or_false] at hx
          rcases hx with rfl | rfl | rfl <;> exact ⟨_, rfl, by decide, by decide⟩
        obtain ⟨b, rfl, b1, b2⟩ := hp
        refine ⟨_, rfl, _, rfl, _, rfl, (by show 4 ≤ sizeLine; decide), fun t ht => ?_⟩
        exact fin false p b b t ⟨⟨p1, p2⟩, ⟨b1, b2⟩, ⟨b1, b2⟩, fun z => by cases z⟩ hP4 (by omega) (F3.trans ((same_fr sl2).trans f4)) ht
      · refine ⟨_, rfl, _, rfl, q, 9, n + 1 + 1 + 1, rfl, (by decide), (by decide), hP3, (by omega), fun b H4 b1 b2 hP4 f4 => ⟨_, rfl, rfl, _, rfl, ?_⟩⟩
        have F4 := F3.trans f4
        refine ite2 (fun hk => ?_) (fun hk => ?_)
        · refine ⟨(by show 4 ≤ sizeLine; decide), fun t ht => ?_⟩
          exact fin false p b 0 t ⟨⟨p1, p2⟩, ⟨b1, by omega⟩, ⟨by decide, by decide⟩, fun z => by cases z⟩ hP4 (by omega) F4 ht
        · refine ⟨_, rfl, _, _, rfl, rfl, hw, _, rfl, q, 9, n + 1 + 1 + 1 + 1, rfl, (by decide), (by decide), hP4, (by omega), fun r2 H5 r20 r21 hP5 f5 => ?_⟩
          refine tNil_to ⟨(by show 3 ≤ sizeLine; decide), fun l2 hl2 => ?_⟩
          have sl2 := same_new (o := .lst [V.int 3, V.int (10 ^ Int.toNat 12), V.int r2]) hl2
          refine ⟨q, l2, [V.int 3, V.int (10 ^ Int.toNat 12), V.int r2], n + 1 + 1 + 1 + 1 + 1, rfl, SqL.of upd_same, hP5.neq hl2, (by show 0 < 3; decide), (by show 3 < 1000000; decide), hP5.same sl2, by omega, fun x H6 hx hP6 f6 => ?_⟩
          have hp : ∃ a : Int, x = .int a ∧ 0 ≤ a ∧ a ≤ 1000000000000 := by
            rw [e12] at hx
            simp only [List.mem_cons, List.not_mem_nil, or_false] at hx
            rcases hx with rfl | rfl | rfl
            · exact ⟨_, rfl, by decide, by decide⟩
            · exact ⟨_, rfl, by decide, by decide⟩
            · exact ⟨_, rfl, r20, by omega⟩
          obtain ⟨a, rfl, a1, a2⟩ := hp
          refine ⟨(by show 4 ≤ sizeLine; decide), fun t ht => ?_⟩
          exact fin false p b a t ⟨⟨p1, p2⟩, ⟨b1, by omega⟩, ⟨a1, a2⟩, fun z => by cases z⟩ hP6 (by omega) (F4.trans (f5.trans ((same_fr sl2).trans f6))) ht

def spOf (T : Txt K mg) : Sp := fun vs H Q _ => ∃ (t : Addr) (tr : Bool) (p b a : Int), vs = [.ref t] ∧ PlainAt H t tr p b a ∧ Parts tr p b a ∧ ∀ (y : Addr) (H' : Hp), Same H H' → WhE T H' y tr p b a → Q (.ref y) H'
theorem ok_of (HP : PrF lawFile P) (T : Txt K mg) (W : Whl T) : FnOk P w K mg base CX0 7 T.a_of T.fd_of ["_law_plain"] (spOf T) := by
  refine T.F_of.ok sc_of (fun vs H Q E h => ?_) (fun cdv A outer s H vs Q E hr h => ?_)
  · obtain ⟨t, tr, p, b, a, rfl, _⟩ := h; rfl
  · obtain ⟨t, tr, p, b, a, rfl, ht, pa, k⟩ := h
    refine ⟨_, pss_cons (ps_asg (pv 0) (pg_tup rfl (pgs_cons (pg_name (i := 1) sc_of.nd rfl (Or.inl rfl)) (pgs_cons (pg_name (i := 2) sc_of.nd rfl (Or.inl rfl)) (pgs_cons (pg_name (i := 3) sc_of.nd rfl (Or.inl rfl)) (pgs_cons (pg_name (i := 4) sc_of.nd rfl (Or.inl rfl)) (pgs_nil)))))))
      (pss_cons (ps_if (pt_val (pv 4)) (pss_one (ps_ret (pe_mkR W.G.mkr ((ok_Grid_init HP T).raw (b_Grid_init T) .nil) (hr.mono (by decide)) passL rfl T.m_Grid (pa_cons (pv 1) (pa_nil))))) (pss_nil))
      (pss_cons (ps_if (pt_cmpR op_eq (pv 2) (pv 3) (nomark _)) (pss_one (ps_ret (pe_ifExp (pt_cmpR op_gt (pv 2) (pe_int) (nomark _)) (pe_mkR W.E.mkr ((ok_Even_init HP T).raw (b_Even_init T) .nil) (hr.mono (by decide)) passL rfl T.m_Even (pa_cons (pv 1) (pa_cons (pv 2) (pa_nil)))) (pe_mkR W.X.mkr ((ok_Exact_init HP T).raw (b_Exact_init T) .nil) (hr.mono (by decide)) passL rfl T.m_Exact (pa_cons (pv 1) (pa_nil)))))) (pss_nil))
      (pss_one (ps_ret (pe_ifExp (pt_cmpR op_eq (pv 3) (pe_int) (nomark _)) (pe_mkR W.L.mkr ((ok_Lagging_init HP T).raw (b_Lagging_init T) .nil) (hr.mono (by decide)) passL rfl T.m_Lagging (pa_cons (pv 1) (pa_cons (pv 2) (pa_nil)))) (pe_mkR W.W.mkr ((ok_Wheel_init T).raw (b_Wheel_init T) .nil) (hr.mono (by decide)) passL rfl T.m_Wheel (pa_cons (pv 1) (pa_cons (pv 2) (pa_cons (pv 3) (pa_nil)))))))))), ?_⟩
    refine ⟨_, rfl, t, _, rfl, SqT.of ht, rfl, _, _, rfl, _, _, rfl, _, _, rfl, _, _, rfl, rfl, ?_⟩
    refine ⟨_, rfl, tr, rfl, ?_⟩
    cases tr with
    | true =>
      obtain ⟨rfl, rfl⟩ := pa.ht rfl
      exact if_true_of rfl ⟨_, rfl, tNil_to fun y dy hy hdy _ => okG T W hy hdy pa.hp fun H' s' w' => ⟨rfl, k y H' s' ⟨_, _, W.G, by simp, w'⟩⟩⟩
    | false =>
      refine if_false_of rfl ⟨_, rfl, _, rfl, rfl, _, rfl, ?_⟩
      by_cases hb : b = a
      · subst hb
        refine if_true_of (decide_eq_true rfl) ⟨_, rfl, _, _, rfl, rfl, _, rfl, ?_⟩
        refine ite2 (fun h0 => ?_) (fun h0 => ?_)
        · exact ⟨_, rfl, _, rfl, tNil_to fun y dy hy hdy _ => okE T W hy hdy pa.hp pa.hb fun H' s' w' => ⟨rfl, k y H' s' ⟨_, _, W.E, by simp, w'⟩⟩⟩
        · have h0 : ¬ (0 : Int) < b := fun q => h0 (decide_eq_true q)
          have : b = 0 := by have := pa.hb.1; omega
          subst this
          exact ⟨_, rfl, tNil_to fun y dy hy hdy _ => okX T W hy hdy pa.hp fun H' s' w' => ⟨rfl, k y H' s' ⟨_, _, W.X, by simp, w'⟩⟩⟩
      · refine if_false_of (decide_eq_false fun z => hb (by injection z)) ⟨_, rfl, rfl, _, rfl, ?_⟩
        by_cases ha : a = 0
        · subst ha
          exact if_true_of (decide_eq_true rfl) ⟨_, rfl, _, rfl, tNil_to fun y dy hy hdy _ => okL T W hy hdy pa.hp pa.hb fun H' s' w' => ⟨rfl, k y H' s' ⟨_, _, W.L, by simp, w'⟩⟩⟩
        · exact if_false_of (decide_eq_false fun z => ha (by injection z)) ⟨_, rfl, _, rfl, _, rfl, tNil_to fun y dy hy hdy _ => okW T W hy hdy pa.hp pa.hb pa.ha fun H' s' w' => ⟨rfl, k y H' s' ⟨_, _, W.W, by simp, w'⟩⟩⟩
/-- what is due: the text in a list, or the first part that is too great -/
def DueAt (H : Hp) (r : Addr) (tr : Bool) (p b a : Int) : Prop :=
  if 1000000000000 < p then H r = some (.tup [.str "wheel", .str "period"]) else if 1000000000000 < b then H r = some (.tup [.str "wheel", .str "back"])
  else if 1000000000000 < a then H r = some (.tup [.str "wheel", .str "ahead"]) else H r = some (.lst [.str (NX.wtext tr p b a)])
def spDue : Sp := fun vs H Q _ => ∃ (t : Addr) (tr : Bool) (p b a : Int), vs = [.ref t] ∧ PlainAt H t tr p b a ∧ 0 ≤ p ∧ 0 ≤ b ∧ 0 ≤ a ∧ ∀ (r : Addr) (H' : Hp), H r = Option.none → Same H H' → DueAt H' r tr p b a → Q (.ref r) H'
theorem ok_due (T : Txt K mg) : FnOk P w K mg base CX0 1 T.a_due T.fd_due ["_law_plain"] spDue := by
  refine T.F_due.ok sc_due (fun vs H Q E h => ?_) (fun cdv A outer s H vs Q E hr h => ?_)
  · obtain ⟨t, tr, p, b, a, rfl, _⟩ := h; rfl
  · obtain ⟨t, tr, p, b, a, rfl, ht, p0, b0, a0, k⟩ := h
    refine ⟨_, pss_cons (ps_asg (pv 0) (pg_tup rfl (pgs_cons (pg_name (i := 1) sc_due.nd rfl (Or.inl rfl)) (pgs_cons (pg_name (i := 2) sc_due.nd rfl (Or.inl rfl)) (pgs_cons (pg_name (i := 3) sc_due.nd rfl (Or.inl rfl)) (pgs_cons (pg_name (i := 4) sc_due.nd rfl (Or.inl rfl)) (pgs_nil)))))))
      (pss_cons (ps_if (pt_cmpR op_gt (pv 1) (pe_op op_pow (pe_int) (pe_int)) (nomark _)) (pss_one (ps_ret (pe_tup (pa_cons (pe_str) (pa_cons (pe_str) (pa_nil)))))) (pss_nil))
      (pss_cons (ps_if (PW.pt (pw_or (pt_cmpR op_gt (pv 2) (pe_op op_pow (pe_int) (pe_int)) (nomark _)) (pw_or1 (pt_cmpR op_gt (pv 3) (pe_op op_pow (pe_int) (pe_int)) (nomark _))))) (pss_one (ps_ret (pe_tup (pa_cons (pe_str) (pa_cons (pe_ifExp (pt_cmpR op_gt (pv 2) (pe_op op_pow (pe_int) (pe_int)) (nomark _)) (pe_str) (pe_str)) (pa_nil)))))) (pss_nil))
      (pss_one (ps_ret (pe_lst (pa_cons (pe_ifExp (pt_val (pv 4)) (pe_op op_add_str (pe_str) (pe_callTy call_str_int (by rfl) T.n_str (by decide +kernel) (pa_cons (pv 1) (pa_nil)))) (pe_op op_add_str (pe_op op_add_str (pe_op op_add_str (pe_op op_add_str (pe_op op_add_str (pe_str) (pe_callTy call_str_int (by rfl) T.n_str (by decide +kernel) (pa_cons (pv 1) (pa_nil)))) (pe_str)) (pe_callTy call_str_int (by rfl) T.n_str (by decide +kernel) (pa_cons (pv 2) (pa_nil)))) (pe_str)) (pe_callTy call_str_int (by rfl) T.n_str (by decide +kernel) (pa_cons (pv 3) (pa_nil))))) (pa_nil))))))), ?_⟩
    have hw : CPow 10 12 := ⟨by decide, by decide, by decide⟩
    have e12 : (10 : Int) ^ Int.toNat 12 = 1000000000000 := by decide
    refine ⟨_, rfl, t, _, rfl, SqT.of ht, rfl, _, _, rfl, _, _, rfl, _, _, rfl, _, _, rfl, rfl, ?_⟩
    refine ⟨_, rfl, _, _, rfl, rfl, hw, _, _, rfl, rfl, _, rfl, ?_⟩
    by_cases h1 : 1000000000000 < p
    · refine if_true_of (decide_eq_true (by rw [e12]; exact h1)) ⟨(by show 2 ≤ sizeLine; decide), fun r hr' => k r _ hr' (same_new hr') ?_⟩
      unfold DueAt
      rw [if_pos h1, upd_same]
    · refine if_false_of (decide_eq_false (by rw [e12]; exact h1)) ?_
      refine ⟨_, rfl, _, _, rfl, rfl, hw, _, _, rfl, rfl, _, rfl, ?_⟩
      by_cases h2 : 1000000000000 < b
      · refine if_true_of (decide_eq_true (by rw [e12]; exact h2)) (if_true_of rfl ?_)
        refine ⟨_, rfl, _, _, rfl, rfl, hw, _, _, rfl, rfl, _, rfl, if_true_of (decide_eq_true (by rw [e12]; exact h2)) ⟨(by show 2 ≤ sizeLine; decide), fun r hr' => k r _ hr' (same_new hr') ?_⟩⟩
        unfold DueAt
        rw [if_neg h1, if_pos h2, upd_same]
      · refine if_false_of (decide_eq_false (by rw [e12]; exact h2)) ?_
        refine ⟨_, rfl, _, _, rfl, rfl, hw, _, _, rfl, rfl, _, rfl, ?_⟩
        by_cases h3 : 1000000000000 < a
        · refine if_true_of (decide_eq_true (by rw [e12]; exact h3)) ?_
          refine ⟨_, rfl, _, _, rfl, rfl, hw, _, _, rfl, rfl, _, rfl, if_false_of (decide_eq_false (by rw [e12]; exact h2)) ⟨(by show 2 ≤ sizeLine; decide), fun r hr' => k r _ hr' (same_new hr') ?_⟩⟩
          unfold DueAt
          rw [if_neg h1, if_neg h2, if_pos h3, upd_same]
        · refine if_false_of (decide_eq_false (by rw [e12]; exact h3)) ?_
          have fin : ∀ (x : Str), x = NX.wtext tr p b a → ∀ r, H r = Option.none → Q (.ref r) (upd H r (.lst [.str x])) := fun x hx r hr' => k r _ hr' (same_new hr') (by
            unfold DueAt
            rw [if_neg h1, if_neg h2, if_neg h3, upd_same, hx])
          have L : ∀ i : Int, 0 ≤ i → ¬ 1000000000000 < i → i.natAbs.log2 < 1920 ∧ (NX.num i).length ≤ 13 := fun i h0 h1 => ⟨Nat.lt_trans (PySem.Flt.log2_lt_of (show 0 < 64 by decide) (show i.natAbs < 2 ^ 64 by omega)) (by decide), NX.len_num h0 (by omega)⟩
          obtain ⟨p1, p2⟩ := L p p0 h1
          obtain ⟨b1, b2⟩ := L b b0 h2
          obtain ⟨a1, a2⟩ := L a a0 h3
          have z1 : ("wheel " : Str).length = 6 := by decide
          have z2 : (" " : Str).length = 1 := by decide
          have z3 : ("grid " : Str).length = 5 := by decide
          have lp : (Str.ofString (toString p)).length ≤ 13 := p2
          have lb : (Str.ofString (toString b)).length ≤ 13 := b2
          have la : (Str.ofString (toString a)).length ≤ 13 := a2
          have sz := sizeLine_eq
          refine ⟨_, rfl, tr, rfl, ?_⟩
          cases tr with
          | true =>
            refine if_true_of rfl ⟨_, rfl, p, rfl, p1, _, _, rfl, rfl, by omega, tNil_to ⟨(by show 1 ≤ sizeLine; decide), fun r hr' => fin _ rfl r hr'⟩⟩
          | false =>
            refine if_false_of rfl ⟨_, rfl, p, rfl, p1, _, _, rfl, rfl, by omega, _, _, rfl, rfl, by rw [slen]; omega, _, rfl, b, rfl, b1, _, _, rfl, rfl, by simp only [slen]; omega, _, _, rfl, rfl, by simp only [slen]; omega, _, rfl, a, rfl, a1, _, _, rfl, rfl, by simp only [slen]; omega, tNil_to ⟨(by show 1 ≤ sizeLine; decide), fun r hr' => fin _ rfl r hr'⟩⟩

def spBound (T : Txt K mg) : Sp := fun vs H Q E => ∃ (x : Addr) (tr : Bool) (p b a n : Int), vs = [.ref x, .int n] ∧ WhE T H x tr p b a ∧ Parts tr p b a ∧ 1 ≤ n ∧ n ≤ 1000000000000 ∧ MadeP T H Q E tr (p * n) (b * n) (a * n)
theorem MadeP.imp {T : Txt K mg} {H : Hp} {Q Q' : VK} {E : XK} {tr : Bool} {p b a : Int} (h : MadeP T H Q E tr p b a) (k : ∀ (y : Addr) H', Q (.ref y) H' → Q' (.ref y) H') : MadeP T H Q' E tr p b a := ⟨h.per, h.bck, h.ahd, fun h1 h2 h3 y H' s w => k y H' (h.ok h1 h2 h3 y H' s w)⟩
theorem ok_bound (HP : PrF lawFile P) (T : Txt K mg) (W : Whl T) : FnOk P w K mg base (L2.CX P w) 9 T.a_bound T.fd_bound ["_law_made", "_law_n"] (spBound T) := by
  refine T.F_bound.okX sc_bound (fun vs H Q E h => ?_) (fun cdv A outer s H vs Q E hr h => ?_)
  · obtain ⟨x, tr, p, b, a, n, rfl, _⟩ := h; rfl
  · obtain ⟨x, tr, p, b, a, n, rfl, hw, pa, n1, n2, M⟩ := h
    obtain ⟨C, f, wc, hC, dx, hx⟩ := id hw
    refine ⟨_, pss_cons (ps_aug (i := 0) sc_bound.nd rfl (Or.inl rfl) (pv 1) ((ip_ownW K (by rfl) (ok_Wheel_mul HP T W) (hr.mono (by decide)) (b_Wheel_mul T) (passes_call (takes_of rfl rfl rfl rfl) (fun _ _ _ _ h => h)))))
      (pss_one (ps_ret (pv 0))), ?_⟩
    refine ⟨_, rfl, _, rfl, x, C, dx, _, n, rfl, rfl, hx, wc.mulI, wc.imul, x, tr, p, b, a, .int n, "int", rfl, hw, pa, .int n, fun z => absurd ((bet_ok n1 n2).symm.trans z) (by decide), fun m e m1 m2 => ?_⟩
    cases e
    exact M.imp fun y H' q => ⟨y, rfl, _, rfl, q⟩

/-- a word: ASCII signs, no blank, not long -/
def WordOk (w : Str) : Prop := (∀ c ∈ TL.tl w, c < 128 ∧ c ≠ 32) ∧ w.length ≤ 200
def nodig (c : Nat) : Bool := !(decide (48 ≤ c) && decide (c ≤ 57))
theorem mem_digits (c : Nat) : decide (c ∈ (("0123456789" : Str)).cps.toList) = (decide (48 ≤ c) && decide (c ≤ 57)) := by
  have e : (("0123456789" : Str)).cps.toList = [48, 49, 50, 51, 52, 53, 54, 55, 56, 57] := by decide +kernel
  rw [e, Bool.eq_iff_iff]
  simp only [List.mem_cons, List.not_mem_nil, or_false, decide_eq_true_eq, Bool.and_eq_true]
  omega
theorem none_bad (l : List Nat) : (l.filter nodig = []) ↔ l.all (fun c => decide (48 ≤ c) && decide (c ≤ 57)) = true := by
  rw [List.filter_eq_nil_iff, List.all_eq_true]
  constructor
  · intro h c hc
    have := h c hc
    unfold nodig at this
    simpa using this
  · intro h c hc
    unfold nodig
    rw [h c hc]
    decide
theorem dp_signs {K : PySem.W.Frag} {H : Hp} : ∀ l : List Nat, DpAll K H (l.map fun c => V.str ⟨#[c]⟩) (l.map fun c => PyData.str ⟨#[c]⟩)
  | [] => .nil
  | c :: l => .cons (.str _) (dp_signs l)
theorem shaped_signs (l : List Nat) (h : ∀ c ∈ l, c < 128) : SeqAt.shaped (.list (l.map fun c => PyData.str ⟨#[c]⟩)) = true := by
  have a : PyData.canLayAll0 (l.map fun c => PyData.str ⟨#[c]⟩) = true := by
    induction l with
    | nil => rfl
    | cons c l ih =>
      show (PyData.canLay0 (PyData.str ⟨#[c]⟩) && PyData.canLayAll0 _) = true
      rw [ih fun c' hc' => h c' (List.mem_cons_of_mem _ hc'), Bool.and_true]
      have := h c List.mem_cons_self
      simp [PyData.canLay0, PyData.strOk]
      omega
  have b : PyData.depthAll (l.map fun c => PyData.str ⟨#[c]⟩) ≤ 1 := by
    clear a h
    induction l with
    | nil => simp [PyData.depthAll]
    | cons c l ih =>
      simp only [List.map_cons, PyData.depthAll, PyData.depth]
      exact Nat.max_le.mpr ⟨by decide, ih⟩
  unfold SeqAt.shaped
  rw [show (PyData.list (l.map fun c => PyData.str ⟨#[c]⟩)).canLay0 = true from a, Bool.true_and]
  refine decide_eq_true ?_
  rw [show (PyData.list (l.map fun c => PyData.str ⟨#[c]⟩)).depth = PyData.depthAll (l.map fun c => PyData.str ⟨#[c]⟩) + 1 by simp only [PyData.depth]]
  omega
theorem eqv_nil (ds : List PyData) : PyData.eqv (.list ds) (.list []) = ds.isEmpty := by
  cases ds <;> simp [PyData.eqv, PyData.eqvAll]
def spFigs : Sp := fun vs H Q _ => ∃ (w : Str) (lo : Int), vs = [.str w, .int lo] ∧ WordOk w ∧ ∀ H', Same H H' → Q (.bl (NX.figs w lo)) H'
theorem ok_is_figures (T : Txt K mg) : FnOk P w K mg base CX0 1 T.a_is_figures T.fd_is_figures ["_law_word", "_law_least"] spFigs := by
  refine T.F_is_figures.ok sc_is_figures (fun vs H Q E h => ?_) (fun cdv A outer s H vs Q E hr h => ?_)
  · obtain ⟨z, lo, rfl, _⟩ := h; rfl
  · obtain ⟨z, lo, rfl, ⟨hz, lz⟩, k⟩ := h
    refine ⟨_, pss_cons (ps_if (PW.pt (pw_or (pt_cmpR op_eq (pv 0) (pe_str) (nomark _)) (pw_or (pt_cmpR (op_neD hr.units) (pe_lc (own := [("_law_sign", 2)]) (g := gName 2) rfl sc_is_figures.nd (pi_str (pv 0)) (blkOk_by (own := [("_law_sign", 2)]) (N := ["_law_word", "_law_least", "_law_sign"]) (sc := defScope s_is_figures) (by decide +kernel)) (fun _ _ _ _ _ => pg_name (i := 2) sc_is_figures.nd rfl (Or.inl rfl)) (fun _ _ _ _ _ => pts_one (pt_cmpR op_notInS (pv 2) (pe_str) rfl)) (fun _ _ _ _ _ => pv 2)) (pe_lst (pa_nil)) (nomark _)) (pw_or1 (PW.pt (pw_and (pt_cmpR op_eq (pe_ix ix_str (pv 0) (pe_int) (fun _ _ => rfl)) (pe_str) (nomark _)) (pw_and1 (pt_cmpR op_ne (pv 0) (pe_str) (nomark _))))))))) (pss_one (ps_ret (pe_bl))) (pss_nil))
      (pss_one (ps_ret (pe_and (pe_cmpR op_le (pe_callB call_len_str (by rfl) T.n_len (by decide +kernel) (pa_cons (pv 0) (pa_nil))) (pe_int) (nomark _)) (pe_one (pe_chain op_le op_le (pv 1) (pe_callTy call_int_str (by rfl) T.n_int (by decide +kernel) (pa_cons (pv 0) (pa_nil))) (pe_op op_pow pe_int pe_int)))))), ?_⟩
    have sz := sizeLine_eq
    have no : NX.canon (TL.tl z) = false → ∀ H', Same H H' → Q (.bl false) H' := fun e H' s => by
      have := k H' s
      unfold NX.figs at this
      rw [e, Bool.false_and, Bool.false_and, Bool.false_and] at this
      exact this
    refine ⟨_, rfl, rfl, _, rfl, ?_⟩
    by_cases h0 : z = ""
    · subst h0
      exact if_true_of (decide_eq_true rfl) (if_true_of rfl (no (by decide) H fun _ _ z => z))
    refine if_false_of (decide_eq_false fun e => h0 (by injection e)) ?_
    have ne : TL.tl z ≠ [] := fun q => h0 (TL.ext_tl (by rw [q]; rfl))
    refine ⟨_, rfl, z, rfl, fun D hD => lc_it walk_str (fun i G => Same H G ∧ G D = some (.lst ((((TL.tl z).take i).filter nodig).map fun c => V.str ⟨#[c]⟩))) ⟨same_new hD, upd_same⟩ (fun _ _ _ _ => trivial) ?_ ?_⟩
    · rintro i x G G' hi ⟨sG, hG⟩ ⟨rfl, c, hc, rfl⟩
      have hc' : (TL.tl z)[i]? = some c := by show z.cps.toList[i]? = some c; rw [Array.getElem?_toList]; exact hc
      have en : (!decide (c ∈ (("0123456789" : Str)).cps.toList)) = nodig c := by rw [mem_digits]; rfl
      refine ⟨rfl, _, rfl, c, "0123456789", rfl, rfl, _, rfl, ?_⟩
      cases hn : nodig c with
      | true =>
        refine if_true_of (en.trans hn) ⟨_, rfl, _, hG, ?_, fun b o e => ?_, ?_⟩
        · rw [List.length_map]
          have := List.length_filter_le nodig ((TL.tl z).take i)
          have := List.length_take_le i (TL.tl z)
          rw [TL.len_tl] at lz
          have hlt := (List.getElem?_eq_some_iff.mp hc').1
          omega
        · rw [upd_ne (ne_of_none e hD)]
          exact sG _ _ e
        · rw [upd_same, List.take_add_one, hc', List.filter_append, List.map_append]
          simp [hn]
      | false =>
        refine if_false_of (en.trans hn) ⟨sG, ?_⟩
        rw [hG, List.take_add_one, hc', List.filter_append]
        simp [hn]
    · rintro G ⟨sG, hG⟩
      rw [show z.cps.size = (TL.tl z).length from TL.len_tl z, List.take_length] at hG
      obtain ⟨F, hF⟩ : ∃ F, (TL.tl z).filter nodig = F := ⟨_, rfl⟩
      rw [hF] at hG
      have hF8 : ∀ c ∈ F, c < 128 := fun c hc => (hz c (by rw [← hF] at hc; exact (List.mem_filter.mp hc).1)).1
      refine ⟨(by show 0 ≤ sizeLine; decide), fun M hM => ⟨.list (F.map fun c => PyData.str ⟨#[c]⟩), .list [], .lst (SqL.of (same_new hM _ _ hG)) (dp_signs F), .lst (SqL.of upd_same) .nil, shaped_signs F hF8, by decide +kernel, _, rfl, ?_⟩⟩
      have sM := sG.trans (same_new (o := .lst []) hM)
      generalize upd G M (.lst []) = G2 at sM ⊢
      by_cases hE : F = []
      · have dg := (none_bad (TL.tl z)).mp (hF.trans hE)
        refine if_false_of (by rw [eqv_nil, hE]; rfl) ?_
        cases q : TL.tl z with
        | nil => exact absurd q ne
        | cons c r =>
          have at0 : atI z.cps.toList 0 = some c := by
            rw [show z.cps.toList = c :: r from q]
            exact atI_nat (j := 0) (xs := c :: r) rfl
          refine ⟨_, rfl, z, 0, c, rfl, rfl, by omega, at0, rfl, _, rfl, ?_⟩
          have dc : decide (V.str ⟨#[c]⟩ = V.str ("0" : Str)) = decide (c = 48) := by
            rw [decide_eq_decide]
            constructor
            · intro e
              injection e with e
              have := congrArg (fun s : Str => s.cps.toList) e
              have : [c] = [48] := this
              simpa using this
            · rintro rfl
              rfl
          have fin : NX.canon (TL.tl z) = true → tAndV (tOp (rI0 fun i j => V.bl (decide (i ≤ j))) (tCB (fun xs H Q => ∃ z, xs = [V.str z] ∧ z.length ≤ sizeLine ∧ Q (V.int ↑z.length) H) (tCons (tVar 0) tNil)) (tC (V.int 13)))
              (tChain (rI0 fun i j => V.bl (decide (i ≤ j))) (rI0 fun i j => V.bl (decide (i ≤ j))) (tVar 1) (tCB (fun xs H Q => ∃ a n, xs = [V.str a] ∧ intText? a = some n ∧ a.length ≤ 640 ∧ Q (V.int n) H) (tCons (tVar 0) tNil)) (tOp (rI CPow fun i j => V.int (i ^ j.toNat)) (tC (V.int 10)) (tC (V.int 12))))
              (L2.start ["_law_word", "_law_least", "_law_sign"] [V.str z, V.int lo]) G2 Q := fun hcn => by
            have kk := k G2 sM
            unfold NX.figs at kk
            rw [hcn, Bool.true_and] at kk
            have lz' : z.length = (TL.tl z).length := TL.len_tl z
            have e12 : (10 : Int) ^ Int.toNat 12 = 1000000000000 := by decide
            refine ⟨_, rfl, z, rfl, by omega, _, _, rfl, rfl, _, rfl, ?_⟩
            by_cases hl : (TL.tl z).length ≤ 13
            · rw [decide_eq_true hl, Bool.true_and] at kk
              refine if_true_of (decide_eq_true (by omega)) ⟨_, rfl, _, rfl, z, _, rfl, NX.int_text hcn (by omega), by omega, _, _, rfl, rfl, _, rfl, ?_⟩
              by_cases h1 : lo ≤ ((NumText.digitsVal (TL.tl z) : Nat) : Int)
              · rw [decide_eq_true h1, Bool.true_and] at kk
                refine if_true_of (decide_eq_true h1) ⟨_, _, rfl, rfl, ⟨by decide, by decide, by decide⟩, _, _, rfl, rfl, ?_⟩
                rw [e12]
                exact kk
              · rw [decide_eq_false h1, Bool.false_and] at kk
                exact if_false_of (decide_eq_false h1) kk
            · rw [decide_eq_false hl, Bool.false_and, Bool.false_and] at kk
              exact if_false_of (decide_eq_false (by omega)) kk
          by_cases hc : c = 48
          · subst hc
            refine if_true_of (by rw [dc]; rfl) ⟨_, rfl, rfl, _, rfl, ?_⟩
            by_cases h48 : z = "0"
            · refine if_false_of (by rw [h48, decide_eq_true rfl]; rfl) (fin (NX.canon_mk ne dg (.inr (by rw [h48]; rfl))))
            · have nc : NX.canon (TL.tl z) = false := Bool.eq_false_iff.mpr fun cc => by
                rcases NX.canon_head cc with y | y
                · rw [q] at y; exact y rfl
                · rw [q] at y
                  have : r = [] := by
                    cases r with
                    | nil => rfl
                    | cons _ _ => simp at y
                  exact h48 (TL.ext_tl (by rw [q, this]; rfl))
              exact if_true_of (by rw [decide_eq_false (fun e => h48 (by injection e))]; rfl) (no nc _ sM)
          · exact if_false_of (by rw [dc, decide_eq_false hc]) (fin (NX.canon_mk ne dg (.inl (by rw [q]; intro y; exact hc (by simpa using y)))))
      · have nc : NX.canon (TL.tl z) = false := Bool.eq_false_iff.mpr fun c => hE (hF.symm.trans ((none_bad _).mpr (NX.canon_dig c)))
        refine if_true_of ?_ (if_true_of rfl (no nc _ sM))
        rw [eqv_nil]
        cases F with
        | nil => exact absurd rfl hE
        | cons _ _ => rfl

def wrongV (ws : List Str) : V := match NX.readW ws with
  | .error i => .int (i : Nat)
  | .ok _ => .non
def spWrong (K : PySem.W.Frag) : Sp := fun vs H Q _ => ∃ (L : Addr) (ws : List Str), vs = [.ref L] ∧ H L = some (.lst (ws.map V.str)) ∧ ws ≠ [] ∧ (∀ w ∈ ws, WordOk w) ∧ ws.length ≤ 100 ∧ ∀ H', Same H H' → Q (wrongV ws) H'
theorem ok_wrong (T : Txt K mg) : FnOk P w K mg base CX0 2 T.a_wrong T.fd_wrong ["_law_words"] (spWrong K) := by
  refine T.F_wrong.ok sc_wrong (fun vs H Q E h => ?_) (fun cdv A outer s H vs Q E hr h => ?_)
  · obtain ⟨L, ws, rfl, _⟩ := h; rfl
  · obtain ⟨L, ws, rfl, hL, hne, hok, hlen, k⟩ := h
    refine ⟨_, pss_cons (ps_if (pt_cmpR op_notIn_seq (pe_ix ix_list (pv 0) (pe_int) (fun _ _ => rfl)) (pe_tup (pa_cons (pe_str) (pa_cons (pe_str) (pa_nil)))) rfl) (pss_one (ps_ret (pe_int))) (pss_nil))
      (pss_cons (ps_set (i := 1) sc_wrong.nd rfl (Or.inl rfl) (pe_ifExp (pt_cmpR op_eq (pe_ix ix_list (pv 0) (pe_int) (fun _ _ => rfl)) (pe_str) (nomark _)) (pe_lst (pa_cons (pe_int) (pa_nil))) (pe_lst (pa_cons (pe_int) (pa_cons (pe_int) (pa_cons (pe_int) (pa_nil)))))))
      (pss_cons (ps_for PassesOwn.never rfl (pi_enum (by rfl) T.n_enumerate (pa_cons (pv 1) pa_nil)) (pg_tup rfl (pgs_cons (pg_name (i := 2) sc_wrong.nd rfl (Or.inl rfl)) (pgs_cons (pg_name (i := 3) sc_wrong.nd rfl (Or.inl rfl)) (pgs_nil)))) (pss_one (ps_if (PW.pt (pw_or (pt_cmpR op_ge (pe_op op_add (pv 2) (pe_int)) (pe_callB call_len_seq (by rfl) T.n_len (by decide +kernel) (pa_cons (pv 0) (pa_nil))) (nomark _)) (pw_or1 (pt_not (pt_val (pe_call (ok_is_figures T) (hr.mono (by decide)) rfl T.m_is_figures T.F_is_figures.kp (b_is_figures T) .nil pass0 (pa_cons (pe_ix ix_list (pv 0) (pe_op op_add (pv 2) (pe_int)) (fun _ _ => rfl)) (pa_cons (pv 3) (pa_nil))))))))) (pss_one (ps_ret (pe_op op_add (pv 2) (pe_int)))) (pss_nil))))
      (pss_one (ps_ret (pe_ifExp (pt_cmpR op_gt (pe_callB call_len_seq (by rfl) T.n_len (by decide +kernel) (pa_cons (pv 0) (pa_nil))) (pe_op op_add (pe_callB call_len_seq (by rfl) T.n_len (by decide +kernel) (pa_cons (pv 1) (pa_nil))) (pe_int)) (nomark _)) (pe_op op_add (pe_callB call_len_seq (by rfl) T.n_len (by decide +kernel) (pa_cons (pv 1) (pa_nil))) (pe_int)) (pe_non)))))), ?_⟩
    have sz := sizeLine_eq
    obtain ⟨w0, hw0⟩ : ∃ w0, ws[0]? = some w0 := by
      cases ws with
      | nil => exact absurd rfl hne
      | cons w r => exact ⟨w, rfl⟩
    have atW : ∀ (j : Nat) (w : Str), ws[j]? = some w → atI (ws.map V.str) ((j : Nat) : Int) = some (.str w) := fun j w e => atI_nat (by rw [List.getElem?_map, e]; rfl)
    refine ⟨_, rfl, L, _, 0, _, rfl, rfl, SqL.of hL, atW 0 w0 hw0, (by show 2 ≤ sizeLine; decide), fun tp htp => ?_⟩
    have s1 := same_new (o := .tup [V.str "wheel", V.str "grid"]) htp
    refine ⟨tp, _, rfl, .inr (SqT.of upd_same), rfl, rfl, _, rfl, ?_⟩
    have hL1 := s1 _ _ hL
    generalize upd H tp (.tup [V.str "wheel", V.str "grid"]) = H1 at s1 hL1 ⊢
    have e0 : (!inV (.str w0) [.str "wheel", .str "grid"]) = !decide (w0 = "wheel" ∨ w0 = "grid") := by
      have := inV2 (some w0) "wheel" "grid"
      rw [show wdV (some w0) = V.str w0 from rfl] at this
      rw [this]
      congr 1
      rw [decide_eq_decide]
      simp only [Option.some.injEq]
    by_cases hg : w0 = "wheel" ∨ w0 = "grid"
    · refine if_false_of (e0.trans (by rw [decide_eq_true hg]; rfl)) ?_
      refine ⟨_, rfl, L, _, 0, _, rfl, rfl, SqL.of hL1, atW 0 w0 hw0, rfl, _, rfl, ?_⟩
      rcases hg with hw | hw
      · have ev : decide (V.str w0 = V.str ("grid" : Str)) = false := by subst hw; decide
        refine if_false_of ev ⟨(by show 3 ≤ sizeLine; decide), fun L2 h2 => ?_⟩
        have s2 := same_new (o := .lst [V.int 2, V.int 0, V.int 0]) h2
        have eL2 : (upd H1 L2 (.lst [V.int 2, V.int 0, V.int 0])) L2 = some (.lst (([2, 0, 0] : List Int).map V.int)) := upd_same
        have hL2 := s2 _ _ hL1
        have s02 := s1.trans s2
        obtain ⟨R1, R2⟩ := NX.readW_ls (ws := ws) (ls := [2, 0, 0]) (.inr ⟨by rw [hw0, hw], rfl⟩)
        refine ⟨_, rfl, L2, ([2, 0, 0] : List Int).map V.int, rfl, SqL.of eL2, ?_⟩
        generalize upd H1 L2 (.lst [V.int 2, V.int 0, V.int 0]) = H2 at s2 eL2 hL2 s02 ⊢
        refine for_it walk_enum (fun i σ G => Same H2 G ∧ (∃ x2 x3 : Option V, σ = [some (.ref L), some (.ref L2), x2, x3]) ∧ ∀ (j : Nat) (lo : Int), j < i → ([2, 0, 0] : List Int)[j]? = some lo → (NX.tk ws (j + 1) lo).isSome = true) ⟨fun _ _ z => z, ⟨_, _, rfl⟩, fun j lo h _ => absurd h (Nat.not_lt_zero _)⟩ (fun i σ G _ z => SqL.of (z.1 _ _ eL2)) ?_ ?_
        · rintro i x σ G G2 hi ⟨sG, ⟨x2, x3, rfl⟩, hb⟩ ⟨tz, u1, u2, rfl, htz, rfl, e1, e2⟩
          cases e1
          dsimp only at e2
          rw [List.getElem?_map] at e2
          obtain ⟨lo, hlo, rfl⟩ := Option.map_eq_some_iff.mp e2
          have st := same_new (o := .tup [V.int (i : Nat), V.int lo]) htz
          have sG := sG.trans st
          refine ⟨tz, _, rfl, SqT.of upd_same, rfl, _, _, rfl, _, _, rfl, rfl, ?_⟩
          generalize upd G tz (.tup [V.int (i : Nat), V.int lo]) = G3 at sG ⊢
          have gL := sG _ _ hL2
          have bad : NX.tk ws (i + 1) lo = Option.none → ∀ G', Same G3 G' → Q (.int ((i : Nat) + 1)) G' := fun hn G' s' => by
            have := k G' (s02.trans (sG.trans s'))
            unfold wrongV at this
            rw [R1 i lo hlo (fun j lo' hj e => hb j lo' hj e) hn] at this
            exact this
          refine ⟨_, rfl, _, _, rfl, rfl, _, rfl, L, _, rfl, .inl (SqL.of gL), _, _, rfl, rfl, _, rfl, ?_⟩
          rw [List.length_map]
          refine ite2 (fun h1 => ?_) (fun h1 => ?_)
          · have h1 := of_decide_eq_true h1
            refine if_true_of rfl ⟨_, rfl, _, _, rfl, rfl, bad ?_ _ fun _ _ z => z⟩
            unfold NX.tk
            rw [List.getElem?_eq_none (by omega)]
            rfl
          · have h1 : ¬ ((ws.length : Nat) : Int) ≤ (i : Nat) + 1 := fun q => h1 (decide_eq_true q)
            have lt : i + 1 < ws.length := by omega
            have ew : ws[i + 1]? = some ws[i + 1] := List.getElem?_eq_getElem lt
            have et : NX.tk ws (i + 1) lo = NX.tkV lo ws[i + 1] := by unfold NX.tk; rw [ew]; rfl
            refine ⟨_, rfl, _, rfl, _, _, rfl, rfl, L, _, ((i + 1 : Nat) : Int), _, rfl, by rw [Int.natCast_add]; rfl, SqL.of gL, atW (i + 1) _ ew, _, rfl, tNil_to ⟨ws[i + 1], lo, rfl, hok _ (List.getElem_mem lt), fun G4 s4 => ⟨_, rfl, ?_⟩⟩⟩
            rw [NX.figs_tk]
            cases ex : NX.tkV lo ws[i + 1] with
            | none =>
              exact if_true_of rfl ⟨_, rfl, _, _, rfl, rfl, bad (et.trans ex) _ s4⟩
            | some m =>
              refine if_false_of rfl ⟨sG.trans s4, ⟨_, _, rfl⟩, fun j lo' hj e => ?_⟩
              rcases Nat.lt_or_ge j i with c | c
              · exact hb j lo' c e
              · obtain rfl : j = i := by omega
                rw [hlo] at e
                cases e
                rw [et, ex]
                rfl
        · rintro σ G ⟨sG, ⟨x2, x3, rfl⟩, hb⟩
          have gL := sG _ _ hL2
          have gL2 := sG _ _ eL2
          obtain ⟨q1, q2⟩ := R2 fun j lo e => hb j lo (by
            rw [List.length_map]
            exact (List.getElem?_eq_some_iff.mp e).1) e
          have kk := k G (s02.trans sG)
          unfold wrongV at kk
          refine ⟨_, rfl, L, _, rfl, .inl (SqL.of gL), _, rfl, L2, _, rfl, .inl (SqL.of gL2), _, _, rfl, rfl, _, _, rfl, rfl, _, rfl, ?_⟩
          rw [List.length_map]
          refine ite2 (fun h1 => ?_) (fun h1 => ?_)
          · have h1 := of_decide_eq_true h1
            rw [q1 (by simp only [List.length_map, List.length_cons, List.length_nil] at h1 ⊢; omega)] at kk
            exact ⟨_, rfl, L2, _, rfl, .inl (SqL.of gL2), _, _, rfl, rfl, kk⟩
          · obtain ⟨r, hr⟩ := q2 (fun c => h1 (decide_eq_true (by simp only [List.length_map, List.length_cons, List.length_nil] at c ⊢; omega)))
            rw [hr] at kk
            exact kk
      · have ev : decide (V.str w0 = V.str ("grid" : Str)) = true := by subst hw; decide
        refine if_true_of ev ⟨(by show 1 ≤ sizeLine; decide), fun L2 h2 => ?_⟩
        have s2 := same_new (o := .lst [V.int 2]) h2
        have eL2 : (upd H1 L2 (.lst [V.int 2])) L2 = some (.lst (([2] : List Int).map V.int)) := upd_same
        have hL2 := s2 _ _ hL1
        have s02 := s1.trans s2
        obtain ⟨R1, R2⟩ := NX.readW_ls (ws := ws) (ls := [2]) (.inl ⟨by rw [hw0, hw], rfl⟩)
        refine ⟨_, rfl, L2, ([2] : List Int).map V.int, rfl, SqL.of eL2, ?_⟩
        generalize upd H1 L2 (.lst [V.int 2]) = H2 at s2 eL2 hL2 s02 ⊢
        refine for_it walk_enum (fun i σ G => Same H2 G ∧ (∃ x2 x3 : Option V, σ = [some (.ref L), some (.ref L2), x2, x3]) ∧ ∀ (j : Nat) (lo : Int), j < i → ([2] : List Int)[j]? = some lo → (NX.tk ws (j + 1) lo).isSome = true) ⟨fun _ _ z => z, ⟨_, _, rfl⟩, fun j lo h _ => absurd h (Nat.not_lt_zero _)⟩ (fun i σ G _ z => SqL.of (z.1 _ _ eL2)) ?_ ?_
        · rintro i x σ G G2 hi ⟨sG, ⟨x2, x3, rfl⟩, hb⟩ ⟨tz, u1, u2, rfl, htz, rfl, e1, e2⟩
          cases e1
          dsimp only at e2
          rw [List.getElem?_map] at e2
          obtain ⟨lo, hlo, rfl⟩ := Option.map_eq_some_iff.mp e2
          have st := same_new (o := .tup [V.int (i : Nat), V.int lo]) htz
          have sG := sG.trans st
          refine ⟨tz, _, rfl, SqT.of upd_same, rfl, _, _, rfl, _, _, rfl, rfl, ?_⟩
          generalize upd G tz (.tup [V.int (i : Nat), V.int lo]) = G3 at sG ⊢
          have gL := sG _ _ hL2
          have bad : NX.tk ws (i + 1) lo = Option.none → ∀ G', Same G3 G' → Q (.int ((i : Nat) + 1)) G' := fun hn G' s' => by
            have := k G' (s02.trans (sG.trans s'))
            unfold wrongV at this
            rw [R1 i lo hlo (fun j lo' hj e => hb j lo' hj e) hn] at this
            exact this
          refine ⟨_, rfl, _, _, rfl, rfl, _, rfl, L, _, rfl, .inl (SqL.of gL), _, _, rfl, rfl, _, rfl, ?_⟩
          rw [List.length_map]
          refine ite2 (fun h1 => ?_) (fun h1 => ?_)
          · have h1 := of_decide_eq_true h1
            refine if_true_of rfl ⟨_, rfl, _, _, rfl, rfl, bad ?_ _ fun _ _ z => z⟩
            unfold NX.tk
            rw [List.getElem?_eq_none (by omega)]
            rfl
          · have h1 : ¬ ((ws.length : Nat) : Int) ≤ (i : Nat) + 1 := fun q => h1 (decide_eq_true q)
            have lt : i + 1 < ws.length := by omega
            have ew : ws[i + 1]? = some ws[i + 1] := List.getElem?_eq_getElem lt
            have et : NX.tk ws (i + 1) lo = NX.tkV lo ws[i + 1] := by unfold NX.tk; rw [ew]; rfl
            refine ⟨_, rfl, _, rfl, _, _, rfl, rfl, L, _, ((i + 1 : Nat) : Int), _, rfl, by rw [Int.natCast_add]; rfl, SqL.of gL, atW (i + 1) _ ew, _, rfl, tNil_to ⟨ws[i + 1], lo, rfl, hok _ (List.getElem_mem lt), fun G4 s4 => ⟨_, rfl, ?_⟩⟩⟩
            rw [NX.figs_tk]
            cases ex : NX.tkV lo ws[i + 1] with
            | none =>
              exact if_true_of rfl ⟨_, rfl, _, _, rfl, rfl, bad (et.trans ex) _ s4⟩
            | some m =>
              refine if_false_of rfl ⟨sG.trans s4, ⟨_, _, rfl⟩, fun j lo' hj e => ?_⟩
              rcases Nat.lt_or_ge j i with c | c
              · exact hb j lo' c e
              · obtain rfl : j = i := by omega
                rw [hlo] at e
                cases e
                rw [et, ex]
                rfl
        · rintro σ G ⟨sG, ⟨x2, x3, rfl⟩, hb⟩
          have gL := sG _ _ hL2
          have gL2 := sG _ _ eL2
          obtain ⟨q1, q2⟩ := R2 fun j lo e => hb j lo (by
            rw [List.length_map]
            exact (List.getElem?_eq_some_iff.mp e).1) e
          have kk := k G (s02.trans sG)
          unfold wrongV at kk
          refine ⟨_, rfl, L, _, rfl, .inl (SqL.of gL), _, rfl, L2, _, rfl, .inl (SqL.of gL2), _, _, rfl, rfl, _, _, rfl, rfl, _, rfl, ?_⟩
          rw [List.length_map]
          refine ite2 (fun h1 => ?_) (fun h1 => ?_)
          · have h1 := of_decide_eq_true h1
            rw [q1 (by simp only [List.length_map, List.length_cons, List.length_nil] at h1 ⊢; omega)] at kk
            exact ⟨_, rfl, L2, _, rfl, .inl (SqL.of gL2), _, _, rfl, rfl, kk⟩
          · obtain ⟨r, hr⟩ := q2 (fun c => h1 (decide_eq_true (by simp only [List.length_map, List.length_cons, List.length_nil] at c ⊢; omega)))
            rw [hr] at kk
            exact kk
    · have hr : wrongV ws = .int 0 := by
        unfold wrongV
        rw [NX.readW_no (fun z => hg (.inl (by rw [hw0] at z; injection z))) (fun z => hg (.inr (by rw [hw0] at z; injection z)))]
        rfl
      have := k H1 s1
      rw [hr] at this
      exact if_true_of (e0.trans (by rw [decide_eq_false hg]; rfl)) this

theorem cut_strs (ws : List Str) (lo hi : Option Int) : ∃ ms : List Str, cutV (ws.map V.str) lo hi = ms.map V.str ∧ ms.length ≤ ws.length ∧ ∀ w ∈ ms, w ∈ ws := by
  refine ⟨(ws.drop (HT.sIx (ws.map V.str).length 0 lo)).take (HT.sIx (ws.map V.str).length (ws.map V.str).length hi - HT.sIx (ws.map V.str).length 0 lo), ?_, ?_, fun w hw => List.mem_of_mem_drop (List.mem_of_mem_take hw)⟩
  · unfold cutV
    rw [List.map_take, List.map_drop]
  · rw [List.length_take, List.length_drop]
    omega
def oddWords : List Str := ["", "wheel", "grid", "0", "1", "2", "-1", "01", "1000000000000", "1000000000001", "x", ",", "Wheel", Txt.mul "9" 130, "1_0"]
theorem odd_ok : ∀ w ∈ oddWords, WordOk w := by
  have h : oddWords.all (fun w => (TL.tl w).all (fun c => decide (c < 128) && decide (c ≠ 32)) && decide (w.length ≤ 200)) = true := by decide +kernel
  intro w hw
  have := List.all_eq_true.mp h w hw
  rw [Bool.and_eq_true, List.all_eq_true] at this
  refine ⟨fun c hc => ?_, of_decide_eq_true this.2⟩
  have := this.1 c hc
  rw [Bool.and_eq_true] at this
  exact ⟨of_decide_eq_true this.1, of_decide_eq_true this.2⟩
def spBent (K : PySem.W.Frag) : Sp := fun vs H Q _ => ∃ (q L : Addr) (ws : List Str) (n : Nat), vs = [.ref q, .ref L] ∧ H L = some (.lst (ws.map V.str)) ∧ L ≠ q ∧ (∀ w ∈ ws, WordOk w) ∧ ws.length ≤ 1000 ∧ Pen H q n ∧ n < 90000 ∧
  ∀ (M : Addr) (H' : Hp) (ws' : List Str), H' M = some (.lst (ws'.map V.str)) → M ≠ q → (∀ w ∈ ws', WordOk w) → ws'.length ≤ 2 * ws.length + 1 → Pen H' q (n + 3) → Fr q H H' → Q (.ref M) H'
theorem ok_bent (T : Txt K mg) : FnOk P w K mg base CX0 3 T.a_bent T.fd_bent ["_law_pen_here", "_law_words"] (spBent K) := by
  refine T.F_bent.ok sc_bent (fun vs H Q E h => ?_) (fun cdv A outer s H vs Q E hr h => ?_)
  · obtain ⟨q, L, ws, n, rfl, _⟩ := h; rfl
  · obtain ⟨q, L, ws, n, rfl, hL, nL, hok, hlen, hP, hn, k⟩ := h
    refine ⟨_, pss_cons (ps_set (i := 2) sc_bent.nd rfl (Or.inl rfl) (pe_lst (pa_cons (pe_str) (pa_cons (pe_str) (pa_cons (pe_str) (pa_cons (pe_str) (pa_cons (pe_str) (pa_cons (pe_str) (pa_cons (pe_str) (pa_cons (pe_str) (pa_cons (pe_str) (pa_cons (pe_str) (pa_cons (pe_str) (pa_cons (pe_str) (pa_cons (pe_str) (pa_cons (pe_op op_repS pe_str pe_int) (pa_cons (pe_str) (pa_nil))))))))))))))))))
      (pss_cons (ps_par3 (i := 3) (j := 4) (l := 5) (by rfl) sc_bent.nd rfl rfl rfl (by decide) (by decide) (by decide) rfl rfl rfl (pa_cons (pe_call (ok_draw T) (hr.mono (by decide)) rfl T.m_draw T.F_draw.kp (b_draw T) .nil pass0 (pa_cons (pv 0) (pa_cons (pe_int) (pa_nil)))) (pa_cons (pe_call (ok_draw T) (hr.mono (by decide)) rfl T.m_draw T.F_draw.kp (b_draw T) .nil pass0 (pa_cons (pv 0) (pa_cons (pe_op op_add (pe_callB call_len_seq (by rfl) T.n_len (by decide +kernel) (pa_cons (pv 1) (pa_nil))) (pe_int)) (pa_nil)))) (pa_cons (pe_call (ok_pick T) (hr.mono (by decide)) rfl T.m_pick T.F_pick.kp (b_pick T) .nil pass0 (pa_cons (pv 0) (pa_cons (pv 2) (pa_nil)))) (pa_nil)))) (by rfl))
      (pss_cons (ps_if (pt_cmpR op_eq (pv 3) (pe_int) (nomark _)) (pss_one (ps_ret (pe_op op_cat (pe_slice sl_list (pv 1) (po_none) (po_some (pv 4))) (pe_slice sl_list (pv 1) (po_some (pe_op op_add (pv 4) (pe_int))) (po_none))))) (pss_nil))
      (pss_one (ps_ret (pe_op op_cat (pe_op op_cat (pe_slice sl_list (pv 1) (po_none) (po_some (pv 4))) (pe_lst (pa_cons (pv 5) (pa_nil)))) (pe_slice sl_list (pv 1) (po_some (pe_op op_add (pv 4) (pe_callTy call_int1 (by rfl) T.n_int (by decide +kernel) (pa_cons (pe_cmpR op_gt (pv 3) (pe_int) (nomark _)) (pa_nil))))) (po_none))))))), ?_⟩
    have sz := sizeLine_eq
    refine ⟨_, _, rfl, rfl, ⟨rfl, fun _ _ => by decide, fun _ _ => by decide +kernel⟩, (by show 15 ≤ sizeLine; decide), fun S hS => ?_⟩
    have s1 := same_new (o := .lst (oddWords.map V.str)) hS
    have nS := hP.neq hS
    have eS : (upd H S (.lst (oddWords.map V.str))) S = some (.lst (oddWords.map V.str)) := upd_same
    have hP1 := hP.same s1
    have hL1 := s1 _ _ hL
    refine ⟨_, rfl, q, 4, n, rfl, (by decide), (by decide), hP1, (by omega), fun way H2 y0 y1 hP2 f2 => ?_⟩
    have F2 := (same_fr s1).trans f2
    have hL2 := f2 _ _ nL hL1
    have eS2 := f2 _ _ nS eS
    refine ⟨_, rfl, _, rfl, L, _, rfl, .inl (SqL.of hL2), _, _, rfl, rfl, ?_⟩
    rw [List.length_map]
    refine tNil_to ⟨q, (ws.length : Nat) + 1, n + 1, rfl, by omega, by omega, hP2, (by omega), fun sp H3 z0 z1 hP3 f3 => ?_⟩
    have F3 := F2.trans f3
    have hL3 := f3 _ _ nL hL2
    have eS3 := f3 _ _ nS eS2
    refine ⟨_, rfl, _, rfl, q, S, _, n + 1 + 1, rfl, SqL.of eS3, nS, (by show 0 < 15; decide), (by show 15 < 1000000; decide), hP3, by omega, fun x H4 hx hP4 f4 => ?_⟩
    obtain ⟨wd, hwd, rfl⟩ := List.mem_map.mp hx
    have okd := odd_ok wd hwd
    have F4 := F3.trans f4
    have hL4 := f4 _ _ nL hL3
    clear F2 F3 f2 f3 f4 eS eS2 eS3 hx hP1 hP2 hP3 hL1 hL2 hL3
    refine tNil_to ⟨_, _, _, rfl, ?_⟩
    refine ⟨_, rfl, rfl, _, rfl, ?_⟩
    refine ite2 (fun hw => ?_) (fun hw => ?_)
    · obtain ⟨m1, c1, l1, i1⟩ := cut_strs ws Option.none (some sp)
      obtain ⟨m2, c2, l2, i2⟩ := cut_strs ws (some (sp + 1)) Option.none
      refine ⟨_, rfl, _, rfl, _, rfl, L, _, rfl, SqL.of hL4, fun A hA => ?_⟩
      rw [c1]
      have s5 := same_new (o := .lst (m1.map V.str)) hA
      have eA : (upd H4 A (.lst (m1.map V.str))) A = some (.lst (m1.map V.str)) := upd_same
      have hL5 := s5 _ _ hL4
      have hP5 := hP4.same s5
      have F5 := F4.trans (same_fr s5)
      generalize upd H4 A (.lst (m1.map V.str)) = H5 at s5 eA hL5 hP5 F5 ⊢
      refine ⟨_, rfl, _, rfl, _, _, rfl, rfl, _, rfl, L, _, rfl, SqL.of hL5, fun B hB => ?_⟩
      rw [c2]
      have s6 := same_new (o := .lst (m2.map V.str)) hB
      have eB : (upd H5 B (.lst (m2.map V.str))) B = some (.lst (m2.map V.str)) := upd_same
      have eA := s6 _ _ eA
      have hP6 := hP5.same s6
      have F6 := F5.trans (same_fr s6)
      generalize upd H5 B (.lst (m2.map V.str)) = H6 at s6 eA eB hP6 F6 ⊢
      refine ⟨A, B, _, _, rfl, rfl, eA, eB, by rw [List.length_map, List.length_map]; omega, fun M hM => ?_⟩
      refine k M _ (m1 ++ m2) (by rw [upd_same, List.map_append]) (hP6.neq hM) (fun w hw' => ?_) (by rw [List.length_append]; omega) (hP6.same (same_new hM)) (F6.trans (same_fr (same_new hM)))
      rcases List.mem_append.mp hw' with z | z
      · exact hok w (i1 w z)
      · exact hok w (i2 w z)
    · obtain ⟨m1, c1, l1, i1⟩ := cut_strs ws Option.none (some sp)
      refine ⟨_, rfl, _, rfl, _, rfl, L, _, rfl, SqL.of hL4, fun A hA => ?_⟩
      rw [c1]
      have s5 := same_new (o := .lst (m1.map V.str)) hA
      have eA : (upd H4 A (.lst (m1.map V.str))) A = some (.lst (m1.map V.str)) := upd_same
      have hL5 := s5 _ _ hL4
      have hP5 := hP4.same s5
      have F5 := F4.trans (same_fr s5)
      generalize upd H4 A (.lst (m1.map V.str)) = H5 at s5 eA hL5 hP5 F5 ⊢
      refine ⟨_, rfl, tNil_to ⟨(by show 1 ≤ sizeLine; decide), fun O hO => ?_⟩⟩
      have s6 := same_new (o := .lst [V.str wd]) hO
      have eO : (upd H5 O (.lst [V.str wd])) O = some (.lst ([wd].map V.str)) := upd_same
      have eA := s6 _ _ eA
      have hL6 := s6 _ _ hL5
      have hP6 := hP5.same s6
      have F6 := F5.trans (same_fr s6)
      generalize upd H5 O (.lst [V.str wd]) = H6 at s6 eA eO hL6 hP6 F6 ⊢
      refine ⟨A, O, _, _, rfl, rfl, eA, eO, by rw [List.length_map, List.length_map]; simp only [List.length_cons, List.length_nil]; omega, fun D hD => ?_⟩
      have s7 := same_new (o := .lst (m1.map V.str ++ [wd].map V.str)) hD
      have eD : (upd H6 D (.lst (m1.map V.str ++ [wd].map V.str))) D = some (.lst ((m1 ++ [wd]).map V.str)) := by rw [upd_same, List.map_append]
      have hL7 := s7 _ _ hL6
      have hP7 := hP6.same s7
      have F7 := F6.trans (same_fr s7)
      generalize upd H6 D (.lst (m1.map V.str ++ [wd].map V.str)) = H7 at s7 eD hL7 hP7 F7 ⊢
      refine ⟨_, rfl, _, rfl, _, rfl, _, _, rfl, rfl, ?_⟩
      refine tNil_to (.inr ⟨_, rfl, _, _, rfl, rfl, _, rfl, L, _, rfl, SqL.of hL7, fun B hB => ?_⟩)
      obtain ⟨m2, c2, l2, i2⟩ := cut_strs ws (some (sp + if decide (1 < way) = true then 1 else 0)) Option.none
      rw [c2]
      have s8 := same_new (o := .lst (m2.map V.str)) hB
      have eB : (upd H7 B (.lst (m2.map V.str))) B = some (.lst (m2.map V.str)) := upd_same
      have eD := s8 _ _ eD
      have hP8 := hP7.same s8
      have F8 := F7.trans (same_fr s8)
      generalize upd H7 B (.lst (m2.map V.str)) = H8 at s8 eD eB hP8 F8 ⊢
      refine ⟨D, B, _, _, rfl, rfl, eD, eB, by rw [List.length_map, List.length_map, List.length_append]; simp only [List.length_cons, List.length_nil]; omega, fun M hM => ?_⟩
      refine k M _ ((m1 ++ [wd]) ++ m2) (by rw [upd_same, List.map_append (l₁ := m1 ++ [wd])]) (hP8.neq hM) (fun w hw' => ?_) (by rw [List.length_append, List.length_append]; simp only [List.length_cons, List.length_nil]; omega) (hP8.same (same_new hM)) (F8.trans (same_fr (same_new hM)))
      rcases List.mem_append.mp hw' with z | z
      · rcases List.mem_append.mp z with z | z
        · exact hok w (i1 w z)
        · obtain rfl := List.mem_singleton.mp z
          exact okd
      · exact hok w (i2 w z)

/-! ### what is heard of calls, with the code tables of two defs -/
theorem core_ext {p : Addr} {H H' : Hp} (e : LamX.ExtN H H') : Same (core p H) H' := fun b o q => by
  obtain ⟨_, q2, q3⟩ := core_of q
  exact e b o q3 q2
theorem Pen.extN {H H' : Hp} {p : Addr} {n : Nat} (h : Pen H p n) (s : LamX.ExtN H H') : Pen H' p n := by
  obtain ⟨c, ns, i, g, h1, h2, h3⟩ := h
  exact ⟨c, ns, i, g, s _ _ h1 (fun ps z => nomatch z), s _ _ h2 (fun ps z => nomatch z), h3⟩
theorem tabs_fr {T : List (Addr × Str)} {p : Addr} {H H' : Hp} {n : Nat} (f : Fr p H H') (hP : Pen H p n) (t : LamX.Tabs T H) : LamX.Tabs T H' := fun q hq => by
  obtain ⟨xs, hp⟩ := hP.at
  obtain ⟨ps, h1, h2, h3⟩ := t q hq
  refine ⟨ps, f _ _ (fun z => by rw [z, hp] at h1; cases h1) h1, h2, fun pos cv hc => ?_⟩
  obtain ⟨c, e1, e2⟩ := h3 pos cv hc
  exact ⟨c, e1, f _ _ (fun z => by rw [z, hp] at e2; exact absurd (Option.some.inj e2) (by unfold LamX.CodeO; exact fun z => nomatch z)) e2⟩
theorem tabs_upd {T : List (Addr × Str)} {H : Hp} {L : Addr} {xs ys : List V} (hL : H L = some (.lst xs)) (t : LamX.Tabs T H) : LamX.Tabs T (upd H L (.lst ys)) := fun q hq => by
  obtain ⟨ps, h1, h2, h3⟩ := t q hq
  refine ⟨ps, by rw [upd_ne (fun z => by rw [z, hL] at h1; cases h1)]; exact h1, h2, fun pos cv hc => ?_⟩
  obtain ⟨c, e1, e2⟩ := h3 pos cv hc
  exact ⟨c, e1, by rw [upd_ne (fun z => by rw [z, hL] at e2; exact absurd (Option.some.inj e2) (by unfold LamX.CodeO; exact fun z => nomatch z))]; exact e2⟩
/-- x(lambda: body), with more tables than one -/
theorem pe_lamT {X : Cx} {TL : List (Addr × Str)} {TT : (XK → Hp → VK → Prop) → Hp → VK → Prop} {x a : Str} {st : Stmt} {fd : FuncData} {g c P : Addr} {k : Nat} {Ng : List Str} {params : Arguments} {body : Expr} {scope : Scope} {t : XK → TE} {p lpos pos : Pos}
    (hg : Gl X x) (hm : X.mg x = some (.ref g)) (Fg : Fun X.K x x st g fd) (hb : L2.Binds X.K fd [a] []) (Sg : FnScope Ng [a] (defScope st)) (hNg : Ng[0]? = some a) (hva : Vis (defScope st) a)
    (hG : ∀ cdg, GivesW X Ng x (defScope st) g cdg (defBody st) a (X.env.qual ++ "<lambda>") TT)
    (TB : LamX.TabB X.base X.mg c P) (hcode : X.env.code = .ref c) (hmT : (P, X.env.qual ++ "<lambda>") ∈ TL) (hu : ∀ p ∈ TL, p.1 = P → p.2 = X.env.qual ++ "<lambda>") (hr : Room (k + 2) X.A) (L : LamX.LamS X.env.scope scope) (hdef : defaultsOf params X.env = ([], []))
    (hbind : ∀ (q : Str) (cl : List (Str × Addr)) (pm cv ctv : Value), bindArgs (PySem.W.kla_fn "<lambda>" q params body scope cl pm cv ctv) ⟨[], []⟩ = pure [])
    (hbody : ∀ (A : Around) (outer : List Env) (s : Shared) (H : Hp) (E : XK) (f c' : Addr), Room k (A.deeper (LamX.lamEnv X scope s.heap.objs.size f c')) → PE (LamX.lamCx X A outer s H E scope f c') body (t E))
    (hdb : (x == ("__debug__" : Str)) = false := by decide) (hd : (a == ("__debug__" : Str)) = false := by decide) (hcd : (a == ("__classdict__" : Str)) = false := by decide) :
    PE X (.Call (.Name x p) [.Lambda params body scope lpos] [] pos) (LamX.tLam TL TT t) := by
  constructor
  intro pins s σ H Q I ⟨hT, h⟩
  obtain ⟨oc, od, kV, doc, pm, an, cdv, ct, osl, rfl, lk, hcg⟩ := Fg.ex
  refine wpAny_Call_Name_kw (ld_glob I hg hm ?_ hdb)
  refine PySem.W.callWith_K (h₀ := X.base) I.ok.mod.kin Fg.kp ?_ (by rfl) (by rfl)
  refine Calls.spliced_cons (LamX.lam_make2 I TB hcode hmT hu hT hdef (L.has I.ok) ?_)
  intro f c' pm' ctv H1 s' I1 eN T1 hf hfn hfr hco
  refine Calls.spliced_nil ⟨I1.kIn, wpAny_call ?_⟩
  have F1 : LamAt X H1 s' params body scope f c' := ⟨⟨_, _, hf⟩, hfn, hfr⟩
  refine codeAny_mono (LamX.run_ofS (CX := C8.CX0) (E := C8.E0) (Q := Q) (N := Ng) (ps := [a]) (us := [.ref f]) (vs := [.ref f]) lk hcg Sg hr I1.env0 (hb s' [.ref f] I1.kIn rfl) (.cons rfl .nil) rfl fun hr' => ?_) fun r s2 z => ?_
  · obtain ⟨t', ht', hq'⟩ := hG cdv f c' s' H1 Q (fun E H' Q' => t E σ H' Q') (fun W pn xe E p1 p2 tk => act_w I1 L F1 hbind hr' (fun A outer s H hr2 => hbody A outer s H E f c' hr2) tk hNg hva hd hcd) hco (h H1 eN T1)
    exact ⟨t', ht'.nox, hq'⟩
  · match r, z with
    | .ok (.ret u), z => exact I1.after z
theorem pe_heard {X : Cx} (T : Txt X.K X.mg) (B : Caught T) (gu : X.A.guards = some []) {TL : List (Addr × Str)} {k : Nat} (hr : Room (k + 2) X.A) {c P : Addr} (TB : LamX.TabB X.base X.mg c P) (hcode : X.env.code = .ref c) {params : Arguments} {body : Expr} {scope : Scope} {t : XK → TE} {p lpos pos : Pos}
    (hmT : (P, X.env.qual ++ "<lambda>") ∈ TL) (hu : ∀ p ∈ TL, p.1 = P → p.2 = X.env.qual ++ "<lambda>")
    (hg : Gl X "_law_heard") (L : LamX.LamS X.env.scope scope) (hdef : defaultsOf params X.env = ([], []))
    (hbind : ∀ (q : Str) (cl : List (Str × Addr)) (pm cv ctv : Value), bindArgs (PySem.W.kla_fn "<lambda>" q params body scope cl pm cv ctv) ⟨[], []⟩ = pure [])
    (hbody : ∀ (A : Around) (outer : List Env) (s : Shared) (H : Hp) (E : XK) (f c' : Addr), Room k (A.deeper (LamX.lamEnv X scope s.heap.objs.size f c')) → PE (LamX.lamCx X A outer s H E scope f c') body (t E)) :
    PE X (.Call (.Name "_law_heard" p) [.Lambda params body scope lpos] [] pos) (LamX.tLam TL (TTheard T) t) :=
  pe_lamT hg T.m_heard T.F_heard (b_heard T) sc_heard rfl (.inl rfl) (fun cdg => heard_gives (k := k + 1) T B gu hr) TB hcode hmT hu hr L hdef hbind hbody
/-! ### keywords -/
def gkW (α : Type) : List α → List α → List α
  | [x], [a] => [x, a]
  | _, _ => []
def gkB (α : Type) : List α → List α → List α
  | [], [a] => [a]
  | _, _ => []
theorem kb_B {fd : FuncData} {p1 k1 : Str} (h : ∀ (a : Value) (s : Shared), BindsTo s fd ⟨[], [(k1, a)]⟩ [(p1, a)]) : KBinds K fd [p1] [k1] (gkB Value) (gkB V) := by
  refine ⟨fun s us ws _ hl => ?_, fun {vs us zs ws} r rz => ?_⟩
  · match us, ws, hl with
    | [], [a], _ => exact h a s
    | [], [], h => simp [gkB] at h
    | [], _ :: _ :: _, h => simp [gkB] at h
    | _ :: _, _, h => simp [gkB] at h
  · match vs, us, zs, ws, r, rz with
    | _, _, _, _, .nil, .nil => exact .nil
    | _, _, _, _, .nil, .cons r1 .nil => exact .cons r1 .nil
    | _, _, _, _, .nil, .cons _ (.cons _ _) => exact .nil
    | _, _, _, _, .cons _ _, _ => exact .nil
theorem kb_W {fd : FuncData} {p0 p1 k1 : Str} (h : ∀ (x a : Value) (s : Shared), BindsTo s fd ⟨[x], [(k1, a)]⟩ [(p0, x), (p1, a)]) : KBinds K fd [p0, p1] [k1] (gkW Value) (gkW V) := by
  refine ⟨fun s us ws _ hl => ?_, fun {vs us zs ws} r rz => ?_⟩
  · match us, ws, hl with
    | [x], [a], _ => exact h x a s
    | [], _, h => simp [gkW] at h
    | [_], [], h => simp [gkW] at h
    | [_], _ :: _ :: _, h => simp [gkW] at h
    | _ :: _ :: _, _, h => simp [gkW] at h
  · match vs, us, zs, ws, r, rz with
    | _, _, _, _, .nil, _ => exact .nil
    | _, _, _, _, .cons r1 .nil, .nil => exact .nil
    | _, _, _, _, .cons r1 .nil, .cons r2 .nil => exact .cons r1 (.cons r2 .nil)
    | _, _, _, _, .cons _ .nil, .cons _ (.cons _ _) => exact .nil
    | _, _, _, _, .cons _ (.cons _ _), _ => exact .nil
theorem kb_wider (T : Txt K mg) : KBinds K T.fd_Wheel_wider ["self", "k"] ["k"] (gkW Value) (gkW V) := by
  obtain ⟨oc, od, kV, doc, pm, an, cdv, ct, osl, e, lk, hcd⟩ := T.F_Wheel_wider.ex
  refine kb_W fun x a s => ?_
  rw [e]; exact .of_eq rfl
theorem kb_read (T : Txt K mg) : KBinds K T.fd_Wheel_read ["text"] ["text"] (gkB Value) (gkB V) := by
  obtain ⟨oc, od, kV, doc, pm, an, cdv, ct, osl, e, lk, hcd⟩ := T.F_Wheel_read.ex
  refine kb_B fun a s => ?_
  rw [e]; exact .of_eq rfl
/-! ### what is due, as data -/
def dueD (tr : Bool) (p b a : Int) : PyData :=
  if 1000000000000 < p then .tuple [.str "wheel", .str "period"] else if 1000000000000 < b then .tuple [.str "wheel", .str "back"]
  else if 1000000000000 < a then .tuple [.str "wheel", .str "ahead"] else .list [.str (NX.wtext tr p b a)]
theorem DueAt.dp {K : PySem.W.Frag} {H : Hp} {r : Addr} {tr : Bool} {p b a : Int} (h : DueAt H r tr p b a) : Dp K H (.ref r) (dueD tr p b a) := by
  unfold DueAt at h
  unfold dueD
  have tw : ∀ w : Str, H r = some (.tup [.str "wheel", .str w]) → Dp K H (.ref r) (.tuple [.str "wheel", .str w]) := fun w e => .tup (SqT.of e) (.cons (.str _) (.cons (.str _) .nil))
  split at h
  · rename_i c; rw [if_pos c]; exact tw _ h
  · rename_i c
    rw [if_neg c]
    split at h
    · rename_i c; rw [if_pos c]; exact tw _ h
    · rename_i c
      rw [if_neg c]
      split at h
      · rename_i c; rw [if_pos c]; exact tw _ h
      · rename_i c
        rw [if_neg c]
        exact .lst (SqL.of h) (.cons (.str _) .nil)
theorem DueAt.same {H H' : Hp} {r : Addr} {tr : Bool} {p b a : Int} (s : Same H H') (h : DueAt H r tr p b a) : DueAt H' r tr p b a := by
  unfold DueAt at h ⊢
  split at h
  · rename_i c; rw [if_pos c]; exact s _ _ h
  · rename_i c
    rw [if_neg c]
    split at h
    · rename_i c; rw [if_pos c]; exact s _ _ h
    · rename_i c
      rw [if_neg c]
      split at h
      · rename_i c; rw [if_pos c]; exact s _ _ h
      · rename_i c
        rw [if_neg c]
        exact s _ _ h
theorem num_asc {n : Int} (h : 0 ≤ n) : ∀ c ∈ TL.tl (NX.num n), c < 128 ∧ c ≠ 32 := by
  obtain ⟨m, rfl⟩ := Int.eq_ofNat_of_zero_le h
  intro c hc
  rw [NX.tl_num] at hc
  have z := List.all_eq_true.mp (NX.canon_dig (NX.numL_canon m)) c hc
  simp only [Bool.and_eq_true, decide_eq_true_eq] at z
  omega
theorem wtext_asc {tr : Bool} {p b a : Int} (hp : 0 ≤ p) (hb : 0 ≤ b) (ha : 0 ≤ a) : ∀ c ∈ TL.tl (NX.wtext tr p b a), c < 128 := by
  have k1 : ∀ c ∈ TL.tl ("wheel " : Str), c < 128 := by decide
  have k2 : ∀ c ∈ TL.tl (" " : Str), c < 128 := by decide
  have k3 : ∀ c ∈ TL.tl ("grid " : Str), c < 128 := by decide
  intro c hc
  cases tr with
  | true =>
    have hc : c ∈ TL.tl (("grid " : Str) ++ NX.num p) := hc
    rw [TL.tl_append, List.mem_append] at hc
    exact hc.elim (k3 c) fun z => (num_asc hp c z).1
  | false =>
    have hc : c ∈ TL.tl (("wheel " : Str) ++ NX.num p ++ " " ++ NX.num b ++ " " ++ NX.num a) := hc
    simp only [TL.tl_append, List.mem_append] at hc
    rcases hc with ((((z | z) | z) | z) | z) | z
    · exact k1 c z
    · exact (num_asc hp c z).1
    · exact k2 c z
    · exact (num_asc hb c z).1
    · exact k2 c z
    · exact (num_asc ha c z).1
theorem strOk_tl {w : Str} (h : ∀ c ∈ TL.tl w, c < 128) : PyData.canLay0 (.str w) = true := by
  have : ∀ c ∈ w.cps.toList, c < 128 := h
  simp only [PyData.canLay0, PyData.strOk]
  rw [Array.all_eq_true']
  intro c hc
  have := this c (by simpa using hc)
  simp
  omega
theorem dueD_lay {tr : Bool} {p b a : Int} (hp : 0 ≤ p) (hb : 0 ≤ b) (ha : 0 ≤ a) : (dueD tr p b a).canLay0 = true ∧ SeqAt.shaped (dueD tr p b a) = true := by
  unfold dueD
  split
  · decide +kernel
  · split
    · decide +kernel
    · split
      · decide +kernel
      · have e : (PyData.list [.str (NX.wtext tr p b a)]).canLay0 = true := by
          show (PyData.canLay0 (.str (NX.wtext tr p b a)) && true) = true
          rw [strOk_tl (wtext_asc hp hb ha)]
          rfl
        refine ⟨e, ?_⟩
        unfold SeqAt.shaped
        rw [e, Bool.true_and]
        refine decide_eq_true ?_
        simp only [PyData.depth, PyData.depthAll]
        decide
theorem call_strW2 {X : Cx} {CX : CXT} {k : Nat} {g : Addr} {fd : FuncData} {ps : List Str} {sp : Sp} {E : XK} (K : PySem.W.Frag) (hK : X.K = K) (F : FnOk X.prog X.w X.K X.mg X.base CX k g fd ps sp) (hr : Room (k + 3) X.A) (hb : Binds X.K fd ps []) (hx : Passes CX X E) (hf : PySem.W.isFn X.K (.ref g) = true) : CallR X (.type "str") (rStrW K g sp E) := by
  subst hK
  exact call_strW F hr hb hx hf

theorem tC1_to {v : V} {σ : L2.St} {H : Hp} {Q : List V → Hp → Prop} (h : Q [v] H) : tCons (tC v) tNil σ H Q := h
/-- what stands from B0 to H: the pen, drawn from n times, the tables, and all else -/
structure Md (TL : List (Addr × Str)) (q : Addr) (n : Nat) (B0 H : Hp) : Prop where
  tabs : LamX.Tabs TL H
  pen : Pen H q n
  kp : Same (core q B0) (core q H)
section
variable {TL : List (Addr × Str)} {q : Addr} {n : Nat} {B0 H H' : Hp}
theorem Md.new (t : LamX.Tabs TL H) (p : Pen H q n) : Md TL q n H H := ⟨t, p, fun _ _ e => e⟩
theorem Md.re (h : Md TL q n B0 H) : Md TL q n H H := ⟨h.tabs, h.pen, fun _ _ e => e⟩
theorem Md.same (h : Md TL q n B0 H) (s : Same H H') : Md TL q n B0 H' := ⟨h.tabs.ext s, h.pen.same s, h.kp.trans (core_up (core_same s))⟩
theorem Md.ext (h : Md TL q n B0 H) (x : LamX.ExtN H H') (t : LamX.Tabs TL H') : Md TL q n B0 H' := ⟨t, h.pen.extN x, h.kp.trans (core_up (core_ext x))⟩
theorem Md.pick {m : Nat} (h : Md TL q n B0 H) (f : Fr q H H') (p : Pen H' q m) : Md TL q m B0 H' := ⟨tabs_fr f h.pen h.tabs, p, h.kp.trans (core_up (core_fr f))⟩
theorem Md.dn (h : Md TL q n B0 H) : Same (core q B0) H := h.kp.trans core_sub
theorem Md.mono {m : Nat} (h : Md TL q n B0 H) (l : n ≤ m) : Md TL q m B0 H := ⟨h.tabs, h.pen.mono l, h.kp⟩
end
theorem str_of {T : Txt K mg} {H : Hp} {y : Addr} {tr : Bool} {p b a : Int} {Q : VK} {E : XK} (h : WhE T H y tr p b a) (pa : Parts tr p b a) (k : Q (.str (NX.wtext tr p b a)) H) : rStrW K T.a_Wheel_str (spWheelStr T) E [.ref y] H Q := by
  obtain ⟨C, f, wc, hC, dx, hx⟩ := id h
  exact ⟨y, C, dx, _, rfl, hx, wc.str, y, p, b, a, tr, rfl, h, pa, _, rfl, k⟩
theorem fresh_up {A0 A1 : Hp} (s : Same A0 A1) {U : Addr} (h : A1 U = Option.none) : A0 U = Option.none := by
  match q : A0 U with
  | Option.none => rfl
  | some o => rw [s _ _ q] at h; cases h
theorem due_tup {A0 H2 : Hp} {M U : Addr} {w : Str} {tr : Bool} {p b a : Int} (hM : A0 M = Option.none) {H' : Hp} (s : Same (upd A0 M (.lst [])) H') (kk : ∀ b o, b ≠ M → H' b = some o → H2 b = some o) : Same A0 H2 := fun c o e =>
  kk c o (ne_of_none e hM) (s _ _ (by rw [upd_ne (ne_of_none e hM)]; exact e))
/-- a wheel asked for in a lambda: its text in a list is heard, or the error -/
theorem made_due {T : Txt K mg} {A0 : Hp} {M : Addr} {Q : VK} {tr : Bool} {p b a : Int} (hM : A0 M = Option.none) (hp : 2 ≤ p) (hb : 0 ≤ b) (ha : 0 ≤ a) (ht : tr = true → b = 0 ∧ a = 0) (k : ∀ (r : Addr) H', Same A0 H' → DueAt H' r tr p b a → Q (.ref r) H') :
    MadeP T (upd A0 M (.lst [])) (fun v H1 => rStrW K T.a_Wheel_str (spWheelStr T) E0 [v] H1 (fun v H1 => 1 ≤ sizeLine ∧ ∀ L, H1 L = Option.none → Q (.ref L) (upd H1 L (.lst [v])))) (EHeard T M Q) tr p b a := by
  have er : ∀ w : Str, (∀ (H2 : Hp) (U : Addr), H2 U = some (.tup [.str "wheel", .str w]) → DueAt H2 U tr p b a) → ErrPS T.bad.C w (upd A0 M (.lst [])) (EHeard T M Q) := fun w hw d H2 s2 h2 =>
    ⟨d, rfl, s2 _ _ upd_same, .inr (.inl ⟨rfl, w, h2, fun U H3 hU kk h3 => k U H3 (fun c o e => kk c o (ne_of_none e hM) (s2 _ _ (by rw [upd_ne (ne_of_none e hM)]; exact e))) (hw _ _ h3)⟩)⟩
  refine ⟨fun h1 => er _ fun H2 U h => ?_, fun h1 h2 => er _ fun H2 U h => ?_, fun h1 h2 h3 => er _ fun H2 U h => ?_, fun h1 h2 h3 y H' s w => ?_⟩
  · unfold DueAt; rw [if_pos h1]; exact h
  · unfold DueAt; rw [if_neg (by omega), if_pos h2]; exact h
  · unfold DueAt; rw [if_neg (by omega), if_neg (by omega), if_pos h3]; exact h
  · refine str_of w ⟨⟨hp, h1⟩, ⟨hb, h2⟩, ⟨ha, h3⟩, ht⟩ ⟨(by show 1 ≤ sizeLine; decide), fun L hL => k L _ (fun c o e => ?_) ?_⟩
    · have e1 := s _ _ (show (upd A0 M (.lst [])) c = some o by rw [upd_ne (ne_of_none e hM)]; exact e)
      rw [upd_ne (ne_of_none e1 hL)]
      exact e1
    · unfold DueAt
      rw [if_neg (by omega), if_neg (by omega), if_neg (by omega), upd_same]
/-- what is heard is what is due -/
theorem ne_due {H : Hp} {r r' : Addr} {tr : Bool} {p b a : Int} {Q : VK} (hp : 0 ≤ p) (hb : 0 ≤ b) (ha : 0 ≤ a) (h : DueAt H r tr p b a) (h' : DueAt H r' tr p b a) (k : Q (.bl false) H) : rNeD K (.ref r) (.ref r') H Q := by
  refine ⟨_, _, h.dp, h'.dp, (dueD_lay hp hb ha).2, (dueD_lay hp hb ha).2, ?_⟩
  rw [PySem.SeqAt.eqv_refl _ (dueD_lay hp hb ha).1]
  exact k
theorem WhE.cor {T : Txt K mg} {H : Hp} {q y : Addr} {n : Nat} {tr : Bool} {p b a : Int} (hP : Pen H q n) (h : WhE T H y tr p b a) : WhE T (core q H) y tr p b a := by
  obtain ⟨C, f, wc, hC, dx, hx⟩ := h
  exact ⟨C, f, wc, hC, dx, core_at hx (fun z => by rw [z] at hx; exact (hP.at.elim fun _ z2 => by rw [hx] at z2; cases z2)) (fun _ z => nomatch z)⟩
theorem WhE.up {T : Txt K mg} {H : Hp} {q y : Addr} {tr : Bool} {p b a : Int} (h : WhE T (core q H) y tr p b a) : WhE T H y tr p b a := h.same core_sub
theorem DueAt.cor {H : Hp} {q r : Addr} {tr : Bool} {p b a : Int} (hr : r ≠ q) (h : DueAt H r tr p b a) : DueAt (core q H) r tr p b a := by
  unfold DueAt at h ⊢
  split at h
  · rename_i c; rw [if_pos c]; exact core_at h hr (fun _ z => nomatch z)
  · rename_i c
    rw [if_neg c]
    split at h
    · rename_i c; rw [if_pos c]; exact core_at h hr (fun _ z => nomatch z)
    · rename_i c
      rw [if_neg c]
      split at h
      · rename_i c; rw [if_pos c]; exact core_at h hr (fun _ z => nomatch z)
      · rename_i c
        rw [if_neg c]
        exact core_at h hr (fun _ z => nomatch z)
section
variable {T : Txt K mg} {A0 : Hp} {M y : Addr} {Q : VK} {tr : Bool} {p b a bk ak i : Int}
theorem wider_due (hM : A0 M = Option.none) (wy : WhE T A0 y tr p b a) (pa : Parts tr p b a) (i0 : 0 ≤ i) (i1 : i ≤ 1000000000000) (hbk : tr = true → bk = 0 ∧ ak = 0) (hak : tr = false → bk = b + i ∧ ak = a + i) (k : ∀ (r : Addr) H', Same A0 H' → DueAt H' r tr p bk ak → Q (.ref r) H') :
    spWider T [.ref y, .int i] (upd A0 M (.lst [])) (fun v H1 => rStrW K T.a_Wheel_str (spWheelStr T) E0 [v] H1 (fun v H1 => 1 ≤ sizeLine ∧ ∀ L, H1 L = Option.none → Q (.ref L) (upd H1 L (.lst [v])))) (EHeard T M Q) := by
  have wM := wy.same (same_new (o := .lst []) hM)
  refine ⟨y, tr, p, b, a, .int i, "int", rfl, wM, pa, .int _, fun z => absurd ((bet_ok i0 i1).symm.trans z) (by decide), fun m e m0 m1 => ?_⟩
  cases e
  cases tr with
  | true =>
    obtain ⟨rfl, rfl⟩ := hbk rfl
    obtain ⟨rfl, rfl⟩ := pa.ht rfl
    exact ⟨fun _ => (made_due hM pa.hp.1 (by decide) (by decide) (fun _ => ⟨rfl, rfl⟩) k).ok pa.hp.2 (by decide) (by decide) y _ (fun _ _ e => e) wM, fun z => by cases z⟩
  | false =>
    obtain ⟨rfl, rfl⟩ := hak rfl
    have := pa.hb.1
    have := pa.ha.1
    exact ⟨fun z => absurd z (by decide), fun _ => made_due hM pa.hp.1 (by omega) (by omega) (fun z => by cases z) k⟩
theorem times_pos (pa : Parts tr p b a) (i0 : 1 ≤ i) : 2 ≤ p * i ∧ 0 ≤ b * i ∧ 0 ≤ a * i ∧ (tr = true → b * i = 0 ∧ a * i = 0) := by
  refine ⟨?_, Int.mul_nonneg pa.hb.1 (by omega), Int.mul_nonneg pa.ha.1 (by omega), fun z => ?_⟩
  · have := Int.mul_le_mul_of_nonneg_left i0 (show 0 ≤ p by have := pa.hp.1; omega)
    have := pa.hp.1
    omega
  · obtain ⟨rfl, rfl⟩ := pa.ht z
    simp
theorem mul_due (hM : A0 M = Option.none) (wy : WhE T A0 y tr p b a) (pa : Parts tr p b a) (i0 : 1 ≤ i) (i1 : i ≤ 1000000000000) (k : ∀ (r : Addr) H', Same A0 H' → DueAt H' r tr (p * i) (b * i) (a * i) → Q (.ref r) H') :
    spMul T [.ref y, .int i] (upd A0 M (.lst [])) (fun v H1 => ∃ z, v = .ref z ∧ rStrW K T.a_Wheel_str (spWheelStr T) E0 [.ref z] H1 (fun v H1 => 1 ≤ sizeLine ∧ ∀ L, H1 L = Option.none → Q (.ref L) (upd H1 L (.lst [v])))) (EHeard T M Q) := by
  have wM := wy.same (same_new (o := .lst []) hM)
  refine ⟨y, tr, p, b, a, .int i, "int", rfl, wM, pa, .int _, fun z => absurd ((bet_ok i0 i1).symm.trans z) (by decide), fun m e m0 m1 => ?_⟩
  cases e
  obtain ⟨t1, t2, t3, t4⟩ := times_pos pa i0
  exact (made_due hM t1 t2 t3 t4 k).imp fun y H' q => ⟨y, rfl, q⟩
theorem bound_due {Qv : VK} {E : XK} (hM : A0 M = Option.none) (wy : WhE T A0 y tr p b a) (pa : Parts tr p b a) (i0 : 1 ≤ i) (i1 : i ≤ 1000000000000) (hE : E = EHeard T M Q) (hQ : ∀ v H1, rStrW K T.a_Wheel_str (spWheelStr T) E0 [v] H1 (fun v H1 => 1 ≤ sizeLine ∧ ∀ L, H1 L = Option.none → Q (.ref L) (upd H1 L (.lst [v]))) → Qv v H1)
    (k : ∀ (r : Addr) H', Same A0 H' → DueAt H' r tr (p * i) (b * i) (a * i) → Q (.ref r) H') : spBound T [.ref y, .int i] (upd A0 M (.lst [])) Qv E := by
  subst hE
  have wM := wy.same (same_new (o := .lst []) hM)
  obtain ⟨t1, t2, t3, t4⟩ := times_pos pa i0
  exact ⟨y, tr, p, b, a, i, rfl, wM, pa, i0, i1, (made_due hM t1 t2 t3 t4 k).imp fun y H' q => hQ _ _ q⟩
theorem made_as {H : Hp} {E : XK} {p' b' a' : Int} (pa : Parts tr p b a) (e1 : p' = p) (e2 : b' = b) (e3 : a' = a) (k : ∀ (z : Addr) H', Same H H' → WhE T H' z tr p b a → Q (.ref z) H') : MadeP T H Q E tr p' b' a' := by
  subst e1 e2 e3
  exact ⟨fun z => absurd z (by have := pa.hp.2; omega), fun _ z => absurd z (by have := pa.hb.2; omega), fun _ _ z => absurd z (by have := pa.ha.2; omega), fun _ _ _ => k⟩
theorem mul_one {H : Hp} {E : XK} (wy : WhE T H y tr p b a) (pa : Parts tr p b a) (k : ∀ (z : Addr) H', Same H H' → WhE T H' z tr p b a → Q (.ref z) H') : spMul T [.ref y, .int 1] H Q E := by
  refine ⟨y, tr, p, b, a, .int 1, "int", rfl, wy, pa, .int _, fun z => absurd z (by decide), fun m e m0 m1 => ?_⟩
  cases e
  exact made_as pa (Int.mul_one p) (Int.mul_one b) (Int.mul_one a) k
theorem wider_none {H : Hp} {E : XK} (wy : WhE T H y tr p b a) (pa : Parts tr p b a) (k : ∀ (z : Addr) H', Same H H' → WhE T H' z tr p b a → Q (.ref z) H') : spWider T [.ref y, .int 0] H Q E := by
  refine ⟨y, tr, p, b, a, .int 0, "int", rfl, wy, pa, .int _, fun z => absurd z (by decide), fun m e m0 m1 => ?_⟩
  cases e
  cases tr with
  | true => exact ⟨fun _ => k y H (fun _ _ e => e) wy, fun z => absurd z (by decide)⟩
  | false => exact ⟨fun z => absurd z (by decide), fun _ => made_as pa rfl (Int.add_zero b) (Int.add_zero a) k⟩
theorem ne_as {W : Whl T} {H : Hp} {E : XK} {z : Addr} (wz : WhE T H z tr p b a) (wy : WhE T H y tr p b a) (k : Q (.bl false) H) : rNeW K T.a_Wheel_eq (spWheelEq T) E (.ref z) (.ref y) H Q := by
  obtain ⟨C, f, wc, hC, dx, hx⟩ := wz
  obtain ⟨C', f', wc', hC', dy, hy⟩ := wy
  refine ⟨z, y, C, C', dx, dy, _, _, rfl, rfl, hx, hy, ?_⟩
  have kk : ∀ c, c = true → Q (.bl (!c)) H := fun c e => by rw [e]; exact k
  rcases W.ord C hC C' hC' with o | ⟨o1, o2⟩
  · exact .inl ⟨o, wc.mro, wc.ne, wc.eq, z, y, C, C', f, f', p, b, a, p, b, a, tr, tr, rfl, wc, wc', ⟨dx, hx⟩, ⟨dy, hy⟩, _, rfl, kk _ (decide_eq_true ⟨rfl, rfl, rfl, rfl⟩)⟩
  · exact .inr ⟨o1, o2, wc'.mro, wc'.ne, wc'.eq, y, z, C', C, f', f, p, b, a, p, b, a, tr, tr, rfl, wc', wc, ⟨dy, hy⟩, ⟨dx, hx⟩, _, rfl, kk _ (decide_eq_true ⟨rfl, rfl, rfl, rfl⟩)⟩
theorem own_due {H : Hp} {r : Addr} (pa : Parts tr p b a) (h : H r = some (.lst [.str (NX.wtext tr p b a)])) : DueAt H r tr p b a := by
  unfold DueAt
  rw [if_neg (by have := pa.hp.2; omega), if_neg (by have := pa.hb.2; omega), if_neg (by have := pa.ha.2; omega), h]
theorem own_new {H : Hp} {r : Addr} (pa : Parts tr p b a) (h : H r = Option.none) : ∃ H', H' = upd H r (.lst [.str (NX.wtext tr p b a)]) ∧ Same H H' ∧ DueAt H' r tr p b a := ⟨_, rfl, same_new h, own_due pa upd_same⟩
theorem wwords_ne : NX.wwords tr p b a ≠ [] := by cases tr <;> exact fun z => by cases z
theorem split_own (pa : Parts tr p b a) : Txt.split (NX.wtext tr p b a) " " = NX.wwords tr p b a := by
  rw [← NX.join_words]
  exact NX.split_words wwords_ne (NX.wwords_free (by have := pa.hp.1; omega) pa.hb.1 pa.ha.1)
theorem num_ok {n : Int} (h0 : 0 ≤ n) (h1 : n ≤ 1000000000000) : WordOk (NX.num n) := ⟨num_asc h0, Nat.le_trans (NX.len_num h0 h1) (by decide)⟩
theorem wwords_ok (pa : Parts tr p b a) : ∀ w ∈ NX.wwords tr p b a, WordOk w := by
  have o1 : WordOk "grid" := ⟨by decide, by decide⟩
  have o2 : WordOk "wheel" := ⟨by decide, by decide⟩
  have p1 := num_ok (by have := pa.hp.1; omega) pa.hp.2
  have b1 := num_ok pa.hb.1 pa.hb.2
  have a1 := num_ok pa.ha.1 pa.ha.2
  intro w hw
  cases tr with
  | true =>
    simp only [NX.wwords, if_true, List.mem_cons, List.not_mem_nil, or_false] at hw
    rcases hw with rfl | rfl
    · exact o1
    · exact p1
  | false =>
    simp only [NX.wwords, Bool.false_eq_true, if_false, List.mem_cons, List.not_mem_nil, or_false] at hw
    rcases hw with rfl | rfl | rfl | rfl
    · exact o2
    · exact p1
    · exact b1
    · exact a1
theorem wtext_len (pa : Parts tr p b a) : (NX.wtext tr p b a).length ≤ 60 := by
  have lp := NX.len_num (show 0 ≤ p by have := pa.hp.1; omega) pa.hp.2
  have lb := NX.len_num pa.hb.1 pa.hb.2
  have la := NX.len_num pa.ha.1 pa.ha.2
  have z1 : ("wheel " : Str).length = 6 := by decide
  have z2 : (" " : Str).length = 1 := by decide
  have z3 : ("grid " : Str).length = 5 := by decide
  cases tr with
  | true =>
    show (("grid " : Str) ++ NX.num p).length ≤ 60
    rw [slen]; omega
  | false =>
    show (("wheel " : Str) ++ NX.num p ++ " " ++ NX.num b ++ " " ++ NX.num a).length ≤ 60
    simp only [slen]; omega
theorem read_str {H : Hp} {E : XK} (pa : Parts tr p b a) (k : ∀ (z : Addr) H', Same H H' → WhE T H' z tr p b a → Q (.ref z) H') : spRead T [.str (NX.wtext tr p b a)] H Q E := by
  refine ⟨_, .type "str", true, rfl, fun H' _ => (NT.str (H := H') _).ty, kit_ty (by decide +kernel), fun _ => ?_, fun z => absurd z (by decide)⟩
  have l := wtext_len pa
  have sz := sizeLine_eq
  refine ⟨_, _, rfl, by omega, split_own pa, fun w hw => ?_, fun tr' p' b' a' z H' h s w => ?_, fun i h => ?_⟩
  · exact Nat.le_trans (wwords_ok pa w hw).2 (by rw [sz]; decide)
  · rw [NX.read_own pa.hp pa.hb pa.ha pa.ht] at h
    cases h
    exact k z H' s w
  · rw [NX.read_own pa.hp pa.hb pa.ha pa.ht] at h
    cases h
end
/-- v is no number of those asked for; it shows as d -/
structure OddV (K : PySem.W.Frag) (H : Hp) (lo : Int) (ts : List String) (v : V) (d : PyData) : Prop where
  ty : ∃ t ∈ ts, NT H v t
  no : betB lo 1000000000000 v = false
  sh : Shw K H v d
  ok : PyData.canLay0 (.str d.shown) = true
theorem OddV.same {K : PySem.W.Frag} {H H' : Hp} {lo : Int} {ts : List String} {v : V} {d : PyData} (s : Same H H') (h : OddV K H lo ts v d) : OddV K H' lo ts v d := ⟨h.ty.imp fun t z => ⟨z.1, z.2.same s⟩, h.no, h.sh.same s, h.ok⟩
section
variable {T : Txt K mg} {A0 : Hp} {M y : Addr} {Q Qv : VK} {tr : Bool} {p b a lo : Int} {ts : List String} {v : V} {d : PyData}
theorem odd_err (hM : A0 M = Option.none) (o : OddV K A0 lo ts v d) (k : ∀ (U : Addr) H2, Same A0 H2 → A0 U = Option.none → H2 U = some (.tup [.str "number", .str d.shown]) → Q (.ref U) H2) : ErrNS T.badN.C v (upd A0 M (.lst [])) (EHeard T M Q) := fun dx H2 s2 h2 => by
  have s : Same A0 H2 := fun c u e => s2 _ _ (by rw [upd_ne (ne_of_none e hM)]; exact e)
  exact ⟨dx, rfl, s2 _ _ upd_same, .inl ⟨rfl, v, d, h2, o.sh.same s, fun U H3 hU kk h3 => k U H3 (fun c u e => kk c u (ne_of_none e hM) (s _ _ e)) (fresh_up s hU) h3⟩⟩
theorem odd_mul (hM : A0 M = Option.none) (wy : WhE T A0 y tr p b a) (pa : Parts tr p b a) (o : OddV K A0 1 ts v d) (k : ∀ (U : Addr) H2, Same A0 H2 → A0 U = Option.none → H2 U = some (.tup [.str "number", .str d.shown]) → Q (.ref U) H2) : spMul T [.ref y, v] (upd A0 M (.lst [])) Qv (EHeard T M Q) := by
  obtain ⟨t, ht, nt⟩ := o.ty
  have s0 := same_new (o := .lst []) hM
  exact ⟨y, tr, p, b, a, v, t, rfl, wy.same s0, pa, nt.same s0, fun _ => odd_err hM o k, fun m e m0 m1 => absurd ((bet_ok m0 m1).symm.trans (e ▸ o.no)) (by decide)⟩
theorem odd_wider (hM : A0 M = Option.none) (wy : WhE T A0 y tr p b a) (pa : Parts tr p b a) (o : OddV K A0 0 ts v d) (k : ∀ (U : Addr) H2, Same A0 H2 → A0 U = Option.none → H2 U = some (.tup [.str "number", .str d.shown]) → Q (.ref U) H2) : spWider T [.ref y, v] (upd A0 M (.lst [])) Qv (EHeard T M Q) := by
  obtain ⟨t, ht, nt⟩ := o.ty
  have s0 := same_new (o := .lst []) hM
  exact ⟨y, tr, p, b, a, v, t, rfl, wy.same s0, pa, nt.same s0, fun _ => odd_err hM o k, fun m e m0 m1 => absurd ((bet_ok m0 m1).symm.trans (e ▸ o.no)) (by decide)⟩
end
theorem pen_upd {H : Hp} {q L U : Addr} {n : Nat} {ys : List V} (h : Pen H q n) (nL : L ≠ q) (eL : H L = some (.lst [.ref U])) : Pen (upd H L (.lst ys)) q n := by
  obtain ⟨c, ns, i, g, p1, p2, p3⟩ := h
  have hc : c ≠ L := fun z => by
    rw [z, eL] at p2
    have := Option.some.inj p2
    injection this with this
    cases ns with
    | nil => cases this
    | cons _ _ => injection this with a b; cases a
  exact ⟨c, ns, i, g, by rw [upd_ne (Ne.symm nL)]; exact p1, by rw [upd_ne hc]; exact p2, p3⟩
theorem core_upd {X G : Hp} {q L : Addr} {o : HO} (s : Same X (core q G)) (n : X L = Option.none) : Same X (core q (upd G L o)) := fun b u e => by
  obtain ⟨h1, h2, h3⟩ := core_of (s b u e)
  exact core_at (by rw [upd_ne (ne_of_none e n)]; exact h3) h1 h2
theorem pair_lay {s1 s2 : Str} (h1 : PyData.canLay0 (.str s1) = true) (h2 : PyData.canLay0 (.str s2) = true) : (PyData.list [.tuple [.str "number", .str s1], .tuple [.str "number", .str s2]]).canLay0 = true ∧ SeqAt.shaped (.list [.tuple [.str "number", .str s1], .tuple [.str "number", .str s2]]) = true := by
  have h0 : PyData.canLay0 (.str "number") = true := by decide +kernel
  have e : (PyData.list [.tuple [.str "number", .str s1], .tuple [.str "number", .str s2]]).canLay0 = true := by
    show ((PyData.canLay0 (.str "number") && (PyData.canLay0 (.str s1) && true)) && ((PyData.canLay0 (.str "number") && (PyData.canLay0 (.str s2) && true)) && true)) = true
    rw [h0, h1, h2]
    rfl
  refine ⟨e, ?_⟩
  unfold SeqAt.shaped
  rw [e, Bool.true_and]
  refine decide_eq_true ?_
  simp only [PyData.depth, PyData.depthAll]
  decide
def tysM : List String := ["int", "NoneType", "bool", "str", "list"]
def tysW : List String := ["int", "NoneType", "bool", "str", "tuple"]

/-! ### texts read -/
theorem joinL_len (s : List Nat) : ∀ l : List (List Nat), (TL.joinL s l).length ≤ (l.map (·.length)).sum + l.length * s.length
  | [] => by simp [TL.joinL]
  | [x] => by simp [TL.joinL]
  | x :: y :: l => by
    have ih := joinL_len s (y :: l)
    simp only [TL.joinL, List.length_append, List.map_cons, List.sum_cons, List.length_cons] at ih ⊢
    have : (l.length + 1 + 1) * s.length = (l.length + 1) * s.length + s.length := by rw [Nat.add_mul]; simp
    omega
theorem sum_le {ws : List Str} {m : Nat} (h : ∀ w ∈ ws, w.length ≤ m) : (ws.map (·.length)).sum ≤ ws.length * m := by
  induction ws with
  | nil => simp
  | cons w ws ih =>
    simp only [List.map_cons, List.sum_cons, List.length_cons]
    have := ih fun x hx => h x (List.mem_cons_of_mem _ hx)
    have := h w List.mem_cons_self
    rw [Nat.add_mul]
    omega
theorem words_sum {ws : List Str} (h : ∀ w ∈ ws, WordOk w) (hl : ws.length ≤ 100) : (ws.map (·.length)).sum + ws.length * (" " : Str).length ≤ 20100 := by
  have := sum_le (m := 200) fun w hw => (h w hw).2
  have z2 : (" " : Str).length = 1 := by decide
  rw [z2]
  omega
theorem join_len {ws : List Str} (h : ∀ w ∈ ws, WordOk w) (hl : ws.length ≤ 100) : (Txt.join " " ws).length ≤ 20100 := by
  rw [TL.len_tl, TL.join_eq, TL.tl_join]
  refine Nat.le_trans (joinL_len _ _) (Nat.le_trans (Nat.le_of_eq ?_) (words_sum h hl))
  rw [List.map_map, List.length_map, ← TL.len_tl]
  congr 2
theorem joinL_mem {s : List Nat} {c : Nat} : ∀ {l : List (List Nat)}, c ∈ TL.joinL s l → c ∈ s ∨ ∃ x ∈ l, c ∈ x
  | [], h => by cases h
  | [x], h => .inr ⟨x, List.mem_cons_self, h⟩
  | x :: y :: l, h => by
    simp only [TL.joinL, List.mem_append] at h
    rcases h with h | h | h
    · exact .inr ⟨x, List.mem_cons_self, h⟩
    · exact .inl h
    · rcases joinL_mem h with z | ⟨x', hx, z⟩
      · exact .inl z
      · exact .inr ⟨x', List.mem_cons_of_mem _ hx, z⟩
theorem join_asc {ws : List Str} (h : ∀ w ∈ ws, WordOk w) : ∀ c ∈ TL.tl (Txt.join " " ws), c < 128 := by
  intro c hc
  rw [TL.join_eq, TL.tl_join] at hc
  rcases joinL_mem hc with z | ⟨x, hx, z⟩
  · have k2 : ∀ c ∈ TL.tl (" " : Str), c < 128 := by decide
    exact k2 c z
  · obtain ⟨w, hw, rfl⟩ := List.mem_map.mp hx
    exact ((h w hw).1 c z).1
theorem readW_lt {ws : List Str} {i : Nat} (h : NX.readW ws = .error i) : i ≤ 4 := by
  unfold NX.readW at h
  split at h
  · cases e : NX.tk ws 1 2 with
    | none => rw [e] at h; cases h; decide
    | some p =>
      rw [e] at h
      simp only at h
      split at h
      · cases h; decide
      · cases h
  · split at h
    · cases e : NX.tk ws 1 2 with
      | none => rw [e] at h; cases h; decide
      | some p =>
        rw [e] at h
        simp only at h
        cases e2 : NX.tk ws 2 0 with
        | none => rw [e2] at h; cases h; decide
        | some b =>
          rw [e2] at h
          simp only at h
          cases e3 : NX.tk ws 3 0 with
          | none => rw [e3] at h; cases h; decide
          | some a =>
            rw [e3] at h
            simp only at h
            split at h
            · cases h; decide
            · cases h
    · cases h; decide
/-- what is due of a text -/
def readD (ws : List Str) : PyData := match NX.readW ws with
  | .error i => .tuple [.str "text", .int (i : Nat)]
  | .ok _ => .list [.str (Txt.join " " ws)]
def ReadAt (H : Hp) (r : Addr) (ws : List Str) : Prop := match NX.readW ws with
  | .error i => H r = some (.tup [.str "text", .int (i : Nat)])
  | .ok _ => H r = some (.lst [.str (Txt.join " " ws)])
theorem ReadAt.dp {K : PySem.W.Frag} {H : Hp} {r : Addr} {ws : List Str} (h : ReadAt H r ws) : Dp K H (.ref r) (readD ws) := by
  unfold ReadAt at h
  unfold readD
  cases e : NX.readW ws with
  | error i =>
    rw [e] at h
    exact .tup (SqT.of h) (.cons (.str _) (.cons (.int _) .nil))
  | ok v =>
    rw [e] at h
    exact .lst (SqL.of h) (.cons (.str _) .nil)
theorem ReadAt.same {H H' : Hp} {r : Addr} {ws : List Str} (s : Same H H') (h : ReadAt H r ws) : ReadAt H' r ws := by
  unfold ReadAt at h ⊢
  cases e : NX.readW ws with
  | error i =>
    rw [e] at h
    exact s _ _ h
  | ok v =>
    rw [e] at h
    exact s _ _ h
theorem readD_lay {ws : List Str} (h : ∀ w ∈ ws, WordOk w) : (readD ws).canLay0 = true ∧ SeqAt.shaped (readD ws) = true := by
  unfold readD
  cases e : NX.readW ws with
  | error i =>
    have h0 : PyData.canLay0 (.str "text") = true := by decide +kernel
    have l : (PyData.tuple [.str "text", .int (i : Nat)]).canLay0 = true := by
      show (PyData.canLay0 (.str "text") && (PyData.canLay0 (.int (i : Nat)) && true)) = true
      rw [h0]
      have := readW_lt e
      match i, this with
      | 0, _ => decide +kernel
      | 1, _ => decide +kernel
      | 2, _ => decide +kernel
      | 3, _ => decide +kernel
      | 4, _ => decide +kernel
      | (n + 5), h => exact absurd h (by omega)
    refine ⟨l, ?_⟩
    unfold SeqAt.shaped
    rw [l, Bool.true_and]
    refine decide_eq_true ?_
    simp only [PyData.depth, PyData.depthAll]
    decide
  | ok v =>
    have l : (PyData.list [.str (Txt.join " " ws)]).canLay0 = true := by
      show (PyData.canLay0 (.str (Txt.join " " ws)) && true) = true
      rw [strOk_tl (join_asc h)]
      rfl
    refine ⟨l, ?_⟩
    unfold SeqAt.shaped
    rw [l, Bool.true_and]
    refine decide_eq_true ?_
    simp only [PyData.depth, PyData.depthAll]
    decide
theorem ne_read {K : PySem.W.Frag} {H : Hp} {r r' : Addr} {ws : List Str} {Q : VK} (ok : ∀ w ∈ ws, WordOk w) (h : ReadAt H r ws) (h' : ReadAt H r' ws) (k : Q (.bl false) H) : rNeD K (.ref r) (.ref r') H Q := by
  refine ⟨_, _, h.dp, h'.dp, (readD_lay ok).2, (readD_lay ok).2, ?_⟩
  rw [PySem.SeqAt.eqv_refl _ (readD_lay ok).1]
  exact k
section
variable {T : Txt K mg} {A0 : Hp} {M : Addr} {Q Qv : VK} {E : XK} {ws : List Str}
/-- a text read in a lambda: it is written again, or the word that cannot stand is told -/
theorem read_due (hM : A0 M = Option.none) (ne : ws ≠ []) (ok : ∀ w ∈ ws, WordOk w) (hl : ws.length ≤ 100) (hE : E = EHeard T M Q) (hQ : ∀ v H1, rStrW K T.a_Wheel_str (spWheelStr T) E0 [v] H1 (fun v H1 => 1 ≤ sizeLine ∧ ∀ L, H1 L = Option.none → Q (.ref L) (upd H1 L (.lst [v]))) → Qv v H1)
    (k : ∀ (r : Addr) H', Same A0 H' → ReadAt H' r ws → Q (.ref r) H') : spRead T [.str (Txt.join " " ws)] (upd A0 M (.lst [])) Qv E := by
  subst hE
  have sM : Same A0 (upd A0 M (.lst [])) := same_new hM
  have sz := sizeLine_eq
  have jl := join_len ok hl
  refine ⟨_, .type "str", true, rfl, fun H' _ => (NT.str (H := H') _).ty, kit_ty (by decide +kernel), fun _ => ⟨_, ws, rfl, by omega, NX.split_words ne fun w hw z => ((ok w hw).1 32 z).2 rfl, fun w hw => Nat.le_trans (ok w hw).2 (by rw [sz]; decide), fun tr p b a z H' h s wz => ?_, fun i h d H2 s2 h2 => ?_⟩, fun z => absurd z (by decide)⟩
  · obtain ⟨e, e1, e2, e3, e4⟩ := NX.read_ok h
    have j : Txt.join " " ws = NX.wtext tr p b a := by rw [e, NX.join_words]
    refine hQ _ _ (str_of wz ⟨e1, e2, e3, e4⟩ ⟨(by show 1 ≤ sizeLine; decide), fun L hL => k L _ ((sM.trans s).trans (same_new hL)) ?_⟩)
    unfold ReadAt
    rw [h]
    show _ = some (HO.lst [.str (Txt.join " " ws)])
    rw [upd_same, j]
  · refine ⟨d, rfl, s2 _ _ upd_same, .inr (.inr ⟨rfl, i, Nat.lt_of_le_of_lt (readW_lt h) (by decide), h2, fun U H3 hU kk h3 => k U H3 (fun c u e => kk c u (ne_of_none e hM) (s2 _ _ (sM _ _ e))) ?_⟩)⟩
    unfold ReadAt
    rw [h]
    exact h3
/-- v is no text -/
def OddR (K : PySem.W.Frag) (H : Hp) (v : V) : Prop := ∃ ty, (∀ H', Same H H' → TyX K H' v ty) ∧ PySem.W.kitOne K ty (.type "str") = some false
theorem OddR.same {H H' : Hp} {v : V} (s : Same H H') (h : OddR K H v) : OddR K H' v := h.imp fun ty z => ⟨fun H2 s2 => z.1 H2 (s.trans s2), z.2⟩
theorem OddR.nt {H : Hp} {v : V} {t : String} (h : NT H v t) (hk : kitB t "str" = some false) : OddR K H v := ⟨.type t, fun H' s => (h.same s).ty, kit_ty hk⟩
theorem OddR.wh {H : Hp} {y : Addr} {tr : Bool} {p b a : Int} (h : WhE T H y tr p b a) : OddR K H (.ref y) := by
  obtain ⟨C, f, wc, hC, dx, hx⟩ := h
  exact ⟨.ref C, fun H' s => wc.ty H' y dx _ (s _ _ hx), wc.st⟩
theorem read_odd {v : V} (hM : A0 M = Option.none) (o : OddR K A0 v) (hE : E = EHeard T M Q) (k : ∀ (U : Addr) H2, Same A0 H2 → H2 U = some (.tup [.str "text", .int 0]) → Q (.ref U) H2) : spRead T [v] (upd A0 M (.lst [])) Qv E := by
  subst hE
  have sM : Same A0 (upd A0 M (.lst [])) := same_new hM
  obtain ⟨ty, h1, h2⟩ := o
  exact ⟨v, ty, false, rfl, fun H' s => h1 H' (sM.trans s), h2, fun z => absurd z (by decide), fun _ d H2 s2 h2 => ⟨d, rfl, s2 _ _ upd_same, .inr (.inr ⟨rfl, 0, by decide, h2, fun U H3 hU kk h3 => k U H3 (fun c u e => kk c u (ne_of_none e hM) (s2 _ _ (sM _ _ e))) h3⟩)⟩⟩
end
def spReadR (TL : List (Addr × Str)) : Sp := fun vs H Q _ => ∃ (q t : Addr) (tr : Bool) (p b a : Int) (n : Nat), vs = [.ref q, .ref t] ∧ Pen H q n ∧ n < 80000 ∧ PlainAt (core q H) t tr p b a ∧ Parts tr p b a ∧ LamX.Tabs TL H ∧
  ∀ H', Md TL q (n + 10) H H' → Q (.bl true) H'
theorem ok_read_right (HP : PrF lawFile P) (T : Txt K mg) (W : Whl T) (B : Caught T) {TL : List (Addr × Str)} {f c P1 : Addr} {oc : Value} {od an : Option Addr} {osl : Array (Option Value)} {kV doc pm ct : Value}
    (lk : K.lookup f = some ⟨oc, od, .func (PySem.W.fnOf "_law_read_right" "_law_read_right" (defArgs s_read_right) (defBody s_read_right) (defScope s_read_right) .none kV doc pm an (.ref c) ct), osl⟩) (hcd : PySem.W.codeIn K (.ref c) "_law_read_right" = true)
    (Bd : Binds K (PySem.W.fnOf "_law_read_right" "_law_read_right" (defArgs s_read_right) (defBody s_read_right) (defScope s_read_right) .none kV doc pm an (.ref c) ct) ["_law_pen_here", "_law_plain"] []) (TB : LamX.TabB base mg c P1)
    (hmT : (P1, ("_law_read_right.<locals>.<lambda>" : Str)) ∈ TL) (huT : ∀ p ∈ TL, p.1 = P1 → p.2 = "_law_read_right.<locals>.<lambda>") :
    FnG P w K mg base CX0 13 f (spReadR TL) := by
  refine FnG.mkL lk hcd sc_read_right Bd (fun vs H Q E h => ?_) (fun A outer s H vs Q E gu hr h => ?_)
  · obtain ⟨q, t, tr, p, b, a, n, rfl, _⟩ := h; rfl
  · obtain ⟨q, t, tr, p, b, a, n, rfl, hP, hn, ht, pa, hT, k⟩ := h
    refine ⟨_, pss_cons (ps_set (i := 2) sc_read_right.nd rfl (Or.inl rfl) (pe_m1 PySem.F.slot_str_split PySem.F.type_str_split mt_split (pe_ix ix_list (pe_call (ok_due T) (hr.mono (by decide)) rfl T.m_due T.F_due.kp (b_due T) .nil pass0 (pa_cons (pv 1) (pa_nil))) (pe_int) (fun _ _ => rfl)) pe_str))
      (pss_cons (ps_for PassesOwn.never rfl (pi_range1 (by rfl) T.n_range (pa_cons (pe_int) (pa_nil))) (pg_name (i := 3) sc_read_right.nd rfl (Or.inl rfl)) (pss_cons (ps_set (i := 2) sc_read_right.nd rfl (Or.inl rfl) (pe_orT (pe_call (ok_bent T) (hr.mono (by decide)) rfl T.m_bent T.F_bent.kp (b_bent T) .nil pass0 (pa_cons (pv 0) (pa_cons (pv 2) (pa_nil)))) (pe_one (pe_lst (pa_cons (pe_str) (pa_nil))))))
      (pss_cons (ps_asg (pe_tup (pa_cons (pe_call (ok_wrong T) (hr.mono (by decide)) rfl T.m_wrong T.F_wrong.kp (b_wrong T) .nil pass0 (pa_cons (pv 2) (pa_nil))) (pa_cons (pe_join (pe_str) (pv 2)) (pa_nil)))) (pg_tup rfl (pgs_cons (pg_name (i := 4) sc_read_right.nd rfl (Or.inl rfl)) (pgs_cons (pg_name (i := 5) sc_read_right.nd rfl (Or.inr rfl)) (pgs_nil)))))
      (pss_one (ps_if (pt_cmpR (op_neD hr.units) (pe_heard (k := 10) T B gu hr TB rfl hmT huT rfl (LamX.lamS_by (by show LamX.lamSB (defScope s_read_right) _ = true; decide +kernel)) rfl (fun _ _ _ _ _ => rfl) (fun A2 o2 s2 H2 E2 f2 c2 hr3 => pe_callTy (call_strW2 K (by rfl) (ok_Wheel_str T) (hr3.mono (by decide)) (b_Wheel_str T) pass0 W.fnS) (by rfl) T.n_str (by decide +kernel) (pa_cons (pe_stat (pe_glob (v := .ref T.a_Wheel) rfl T.m_Wheel rfl) T.rdW T.st_read ((ok_Wheel_read HP T W).raw (b_Wheel_read T) .nil) (hr3.mono (by decide)) (passes_call (takes_of rfl rfl rfl rfl) (fun _ _ _ _ h => h)) (pa_cons (pv 5) (pa_nil))) (pa_nil)))) (pe_ifExp (pt_cmpR op_isN (pv 4) (pe_non) (nomark _)) (pe_lst (pa_cons (pv 5) (pa_nil))) (pe_tup (pa_cons (pe_str) (pa_cons (pv 4) (pa_nil))))) (nomark _)) (pss_one (ps_ret (pe_bl))) (pss_nil))))))
      (pss_cons (ps_set (i := 6) sc_read_right.nd rfl (Or.inr rfl) (pe_call (ok_pick T) (hr.mono (by decide)) rfl T.m_pick T.F_pick.kp (b_pick T) .nil pass0 (pa_cons (pv 0) (pa_cons (pe_lst (pa_cons (pe_non) (pa_cons (pe_int) (pa_cons (pe_bl) (pa_cons (pe_tup (pa_cons (pe_str) (pa_nil))) (pa_cons (pe_lst (pa_cons (pe_str) (pa_cons (pe_str) (pa_nil)))) (pa_cons (pe_dnewK) (pa_cons (pe_call (ok_of HP T W) (hr.mono (by decide)) rfl T.m_of T.F_of.kp (b_of T) .nil pass0 (pa_cons (pv 1) (pa_nil))) (pa_nil))))))))) (pa_nil)))))
      (pss_one (ps_ret (pe_cmpR (op_eqD hr.units) (pe_heard (k := 10) T B gu hr TB rfl hmT huT rfl (LamX.lamS_by (by show LamX.lamSB (defScope s_read_right) _ = true; decide +kernel)) rfl (fun _ _ _ _ _ => rfl) (fun A2 o2 s2 H2 E2 f2 c2 hr3 => pe_stat (pe_glob (v := .ref T.a_Wheel) rfl T.m_Wheel rfl) T.rdW T.st_read ((ok_Wheel_read HP T W).raw (b_Wheel_read T) .nil) (hr3.mono (by decide)) (passes_call (takes_of rfl rfl rfl rfl) (fun _ _ _ _ h => h)) (pa_cons (pv 6) (pa_nil)))) (pe_tup (pa_cons (pe_str) (pa_cons (pe_int) (pa_nil)))) (nomark _)))))), ?_⟩
    have p0 : 0 ≤ p := by have := pa.hp.1; omega
    have sz := sizeLine_eq
    have M0 : Md TL q n H H := Md.new hT hP
    refine ⟨_, rfl, t, tr, p, b, a, rfl, core_sub _ _ ht, p0, pa.hb.1, pa.ha.1, fun r H1 hr' s1 D => ?_⟩
    have M1 := M0.same s1
    have eR : H1 r = some (.lst [.str (NX.wtext tr p b a)]) := by
      unfold DueAt at D
      rw [if_neg (by have := pa.hp.2; omega), if_neg (by have := pa.hb.2; omega), if_neg (by have := pa.ha.2; omega)] at D
      exact D
    refine ⟨r, _, 0, _, rfl, rfl, SqL.of eR, rfl, ⟨_, rfl⟩, _, " ", rfl, rfl, rfl, (by have := wtext_len pa; omega), fun L hL => ?_⟩
    rw [split_own pa]
    have s2 := same_new (o := .lst ((NX.wwords tr p b a).map V.str)) hL
    have M2 := M1.same s2
    have eL : core q (upd H1 L (.lst ((NX.wwords tr p b a).map V.str))) L = some (.lst ((NX.wwords tr p b a).map V.str)) := core_at upd_same (M1.pen.neq hL) (fun _ z => nomatch z)
    have wl : (NX.wwords tr p b a).length ≤ 4 := by cases tr <;> simp [NX.wwords]
    refine ⟨3, rfl, by decide, by decide, for_range (n := 3) (fun i σ H' => ∃ (x3 x4 x5 x6 : Option V) (L : Addr) (ws : List Str), σ = [some (.ref q), some (.ref t), some (.ref L), x3, x4, x5, x6] ∧ Md TL q (n + 3 * i) H H' ∧ core q H' L = some (.lst (ws.map V.str)) ∧ ws ≠ [] ∧ (∀ w ∈ ws, WordOk w) ∧ ws.length + 1 ≤ 5 * 2 ^ i)
      ⟨_, _, _, _, L, _, rfl, M2, eL, wwords_ne, wwords_ok pa, by omega⟩ ?_ ?_⟩
    · clear M2 eL wl s2 hL eR M1 D s1 hr' M0
      rintro i σ H2 hi ⟨x3, x4, x5, x6, L, ws, rfl, M3, eL, ne, ok, hl⟩
      have pw : 2 ^ i ≤ 4 := Nat.pow_le_pow_right (n := 2) (by decide) (show i ≤ 2 by omega)
      have pw2 : 5 * 2 ^ (i + 1) = 2 * (5 * 2 ^ i) := by rw [Nat.pow_succ]; omega
      obtain ⟨nL, _, hL⟩ := core_of eL
      refine ⟨_, rfl, _, rfl, q, L, ws, n + 3 * i, rfl, hL, nL, ok, by omega, M3.pen, by omega, fun N H3 ws' hN nN ok' len' hP3 f3 => ?_⟩
      have M4 := M3.pick f3 hP3
      by_cases he : ws' = []
      case' pos =>
        refine ⟨false, .inl ⟨_, SqL.of hN, by rw [he]; rfl⟩, iteF ⟨(by show 1 ≤ sizeLine; decide), fun N4 hN4 => ?_⟩⟩
        have M5 := M4.same (same_new (o := .lst [V.str ""]) hN4)
        obtain ⟨ws4, ews⟩ : ∃ ws4 : List Str, ws4 = [("" : Str)] := ⟨_, rfl⟩
        have e4 : core q (upd H3 N4 (.lst [V.str ""])) N4 = some (.lst (ws4.map V.str)) := by rw [ews]; exact core_at upd_same (M4.pen.neq hN4) (fun _ z => nomatch z)
        have ne4 : ws4 ≠ [] := by rw [ews]; exact fun z => by cases z
        have ok4 : ∀ w ∈ ws4, WordOk w := by
          rw [ews]
          intro w hw
          simp only [List.mem_cons, List.not_mem_nil, or_false] at hw
          subst hw
          exact ⟨by decide, by decide⟩
        have l4 : ws4.length + 1 ≤ 5 * 2 ^ (i + 1) := by
          rw [ews, pw2]
          show 2 ≤ _
          omega
        clear ews
        generalize upd H3 N4 (.lst [V.str ""]) = H4 at M5 e4 ⊢
      case' neg =>
        refine ⟨true, .inl ⟨_, SqL.of hN, by cases ws' with
          | nil => exact absurd rfl he
          | cons _ _ => rfl⟩, iteT ?_⟩
        have M5 := M4
        have e4 := core_at hN nN (fun _ z => nomatch z)
        have ne4 := he
        have ok4 := ok'
        have l4 : ws'.length + 1 ≤ 5 * 2 ^ (i + 1) := by omega
      all_goals
        clear M4 f3 hP3 hL eL hN len' M3
        refine ⟨_, rfl, _, _, rfl, core_sub _ _ e4, ne4, ok4, by omega, fun H5 s5 => ?_⟩
        have M6 := M5.same s5
        have e4 := (M5.re.same s5).kp _ _ e4
        clear M5 s5
        refine ⟨⟨_, rfl⟩, _, rfl, " ", _, _, rfl, rfl, .inl (SqL.of (core_sub _ _ e4)), Nat.le_trans (words_sum ok4 (by omega)) (by decide), tNil_to ⟨(by show 2 ≤ sizeLine; decide), fun tp htp => ⟨_, _, rfl, SqT.of upd_same, rfl, _, _, rfl, _, _, rfl, rfl, ?_⟩⟩⟩
        have s6 := fun o => same_new (o := o) htp
        refine ⟨(M6.same (s6 _)).tabs, fun A0 x0 t0 M hM => ?_⟩
        have M7 := (M6.same (s6 _)).ext x0 t0
        have e4 := ((M6.same (s6 _)).re.ext x0 t0).kp _ _ ((M6.re.same (s6 _)).kp _ _ e4)
        clear x0 t0 s6 M6
        refine ⟨rfl, _, rfl, tNil_to (read_due hM ne4 ok4 (by omega) rfl (fun _ _ z => z) fun r8 H8 s8 D8 => ?_)⟩
        have M8 := M7.same s8
        have e4 := (M7.re.same s8).kp _ _ e4
        clear M7 s8 hM htp
        refine ⟨_, rfl, rfl, _, rfl, ?_⟩
        have fin : ∀ (ws : List Str), NX.readW ws = NX.readW ws := fun _ => rfl
        generalize hz : wrongV _ = z
        unfold wrongV at hz
        split at hz
        · rename_i i4 er
          subst hz
          refine if_false_of (decide_eq_false fun z => by cases z) ⟨_, rfl, (by show 2 ≤ sizeLine; decide), fun r9 hr9 => ?_⟩
          have s9 := same_new (o := .tup [V.str "text", V.int (i4 : Nat)]) hr9
          refine ne_read ok4 (D8.same s9) (by unfold ReadAt; rw [er]; exact upd_same) ⟨_, rfl, iteF ?_⟩
          exact ⟨_, _, _, _, _, _, rfl, M8.same s9, (M8.re.same s9).kp _ _ e4, ne4, ok4, l4⟩
        · rename_i v4 er
          subst hz
          refine if_true_of (decide_eq_true rfl) ⟨_, rfl, (by show 1 ≤ sizeLine; decide), fun r9 hr9 => ?_⟩
          have s9 := fun o => same_new (o := o) hr9
          refine ne_read ok4 (D8.same (s9 _)) (by unfold ReadAt; rw [er]; exact upd_same) ⟨_, rfl, iteF ?_⟩
          exact ⟨_, _, _, _, _, _, rfl, M8.same (s9 _), (M8.re.same (s9 _)).kp _ _ e4, ne4, ok4, l4⟩
    · clear M2 eL wl s2 hL eR M1 D s1 hr' M0
      rintro σ H2 ⟨x3, x4, x5, x6, L, ws, rfl, M3, -, -, -, -⟩
      have M3 : Md TL q (n + 9) H H2 := M3
      have ht := M3.kp _ _ ht
      refine ⟨_, rfl, (by show 1 ≤ sizeLine; decide), fun a1 h1 => ?_⟩
      have s1 := same_new (o := .tup [V.str "grid 2"]) h1
      have M4 := M3.same s1
      have n1 := M3.pen.neq h1
      have ht := (M3.re.same s1).kp _ _ ht
      have e1 : core q (upd H2 a1 (.tup [V.str "grid 2"])) a1 = some (.tup [V.str "grid 2"]) := core_at upd_same n1 (fun _ z => nomatch z)
      generalize upd H2 a1 (.tup [V.str "grid 2"]) = G1 at M4 ht e1 ⊢
      refine ⟨(by show 2 ≤ sizeLine; decide), fun a2 h2 => ?_⟩
      have s2 := same_new (o := .lst [V.str "grid", V.str "2"]) h2
      have M5 := M4.same s2
      have n2 := M4.pen.neq h2
      have ht := (M4.re.same s2).kp _ _ ht
      have e1 := (M4.re.same s2).kp _ _ e1
      have e2 : core q (upd G1 a2 (.lst [V.str "grid", V.str "2"])) a2 = some (.lst [V.str "grid", V.str "2"]) := core_at upd_same n2 (fun _ z => nomatch z)
      generalize upd G1 a2 (.lst [V.str "grid", V.str "2"]) = G2 at M5 ht e1 e2 ⊢
      intro a3 h3
      have s3 := same_new (o := .dK []) h3
      have M6 := M5.same s3
      have n3 := M5.pen.neq h3
      have ht := (M5.re.same s3).kp _ _ ht
      have e1 := (M5.re.same s3).kp _ _ e1
      have e2 := (M5.re.same s3).kp _ _ e2
      have e3 : core q (upd G2 a3 (.dK [])) a3 = some (.dK []) := core_at upd_same n3 (fun _ z => nomatch z)
      generalize upd G2 a3 (.dK []) = G3 at M6 ht e1 e2 e3 ⊢
      refine ⟨_, rfl, t, tr, p, b, a, rfl, core_sub _ _ ht, pa, fun y G4 s4 w4 => ?_⟩
      have M7 := M6.same s4
      have e1 := (M6.re.same s4).kp _ _ e1
      have e2 := (M6.re.same s4).kp _ _ e2
      have e3 := (M6.re.same s4).kp _ _ e3
      have wy := w4.cor M7.pen
      refine ⟨(by show 7 ≤ sizeLine; decide), fun L2 hL2 => ?_⟩
      change spPick K [V.ref q, V.ref L2] (upd G4 L2 (.lst [V.non, V.int 0, V.bl true, V.ref a1, V.ref a2, V.ref a3, V.ref y])) _ E0
      have s5 := same_new (o := .lst [V.non, V.int 0, V.bl true, V.ref a1, V.ref a2, V.ref a3, V.ref y]) hL2
      have M8 := M7.same s5
      refine ⟨q, L2, [V.non, V.int 0, V.bl true, V.ref a1, V.ref a2, V.ref a3, V.ref y], n + 9, rfl, SqL.of upd_same, M7.pen.neq hL2, (by show 0 < 7; decide), (by show 7 < 1000000; decide), M8.pen, by omega, fun ov G6 hx hP2 f2 => ?_⟩
      have oo : OddR K (core q G4) ov := by
        simp only [List.mem_cons, List.not_mem_nil, or_false] at hx
        rcases hx with rfl | rfl | rfl | rfl | rfl | rfl | rfl
        · exact .nt .non (by decide +kernel)
        · exact .nt (.int _) (by decide +kernel)
        · exact .nt (.bl _) (by decide +kernel)
        · exact .nt (.tup e1) (by decide +kernel)
        · exact .nt (.lst e2) (by decide +kernel)
        · exact .nt (.dic e3) (by decide +kernel)
        · exact .wh wy
      have oo := oo.same (M7.re.same s5).kp
      have oo := oo.same (M8.re.pick f2 hP2).kp
      have M9 := M8.pick f2 hP2
      refine ⟨M9.tabs, fun A0 x0 t0 M hM => ?_⟩
      have oo := (oo.same (M9.re.ext x0 t0).kp).same core_sub
      have M10 := M9.ext x0 t0
      refine ⟨rfl, _, rfl, tNil_to (read_odd hM oo rfl fun U G8 s8 eU => ?_)⟩
      have M11 := M10.same s8
      refine ⟨(by show 2 ≤ sizeLine; decide), fun r9 hr9 => ?_⟩
      have s9 := same_new (o := .tup [V.str "text", V.int 0]) hr9
      refine ⟨.tuple [.str "text", .int 0], .tuple [.str "text", .int 0], .tup (SqT.of (s9 _ _ eU)) (.cons (.str _) (.cons (.int _) .nil)), .tup (SqT.of upd_same) (.cons (.str _) (.cons (.int _) .nil)), by decide +kernel, by decide +kernel, ?_⟩
      rw [PySem.SeqAt.eqv_refl _ (by decide +kernel)]
      exact k _ (M11.same s9)

def spMade (TL : List (Addr × Str)) : Sp := fun vs H Q _ => ∃ (q t : Addr) (tr : Bool) (p b a : Int) (n : Nat), vs = [.ref q, .ref t] ∧ Pen H q n ∧ n < 90000 ∧ PlainAt (core q H) t tr p b a ∧ Parts tr p b a ∧ LamX.Tabs TL H ∧
  ∀ H', Md TL q (n + 4) H H' → Q (.bl true) H'
theorem ok_made_right (HP : PrF lawFile P) (T : Txt K mg) (W : Whl T) (B : Caught T) {TL : List (Addr × Str)} {f c P1 : Addr} {oc : Value} {od an : Option Addr} {osl : Array (Option Value)} {kV doc pm ct : Value}
    (lk : K.lookup f = some ⟨oc, od, .func (PySem.W.fnOf "_law_made_right" "_law_made_right" (defArgs s_made_right) (defBody s_made_right) (defScope s_made_right) .none kV doc pm an (.ref c) ct), osl⟩) (hcd : PySem.W.codeIn K (.ref c) "_law_made_right" = true)
    (Bd : Binds K (PySem.W.fnOf "_law_made_right" "_law_made_right" (defArgs s_made_right) (defBody s_made_right) (defScope s_made_right) .none kV doc pm an (.ref c) ct) ["_law_pen_here", "_law_plain"] []) (TB : LamX.TabB base mg c P1)
    (hmT : (P1, ("_law_made_right.<locals>.<lambda>" : Str)) ∈ TL) (huT : ∀ p ∈ TL, p.1 = P1 → p.2 = "_law_made_right.<locals>.<lambda>") :
    FnG P w K mg base CX0 13 f (spMade TL) := by
  refine FnG.mkL lk hcd sc_made_right Bd (fun vs H Q E h => ?_) (fun A outer s H vs Q E gu hr h => ?_)
  · obtain ⟨q, t, tr, p, b, a, n, rfl, _⟩ := h; rfl
  · obtain ⟨q, t, tr, p, b, a, n, rfl, hP, hn, ht, pa, hT, k⟩ := h
    refine ⟨_, pss_cons (ps_asg (pe_tup (pa_cons (pe_call (ok_of HP T W) (hr.mono (by decide)) rfl T.m_of T.F_of.kp (b_of T) .nil pass0 (pa_cons (pv 1) (pa_nil))) (pa_cons (pe_call (ok_pick T) (hr.mono (by decide)) rfl T.m_pick T.F_pick.kp (b_pick T) .nil pass0 (pa_cons (pv 0) (pa_cons (pe_lst (pa_cons (pe_int) (pa_cons (pe_int) (pa_cons (pe_int) (pa_cons (pe_op op_pow (pe_int) (pe_int)) (pa_nil)))))) (pa_nil)))) (pa_cons (pe_call (ok_pick T) (hr.mono (by decide)) rfl T.m_pick T.F_pick.kp (b_pick T) .nil pass0 (pa_cons (pv 0) (pa_cons (pe_lst (pa_cons (pe_int) (pa_cons (pe_int) (pa_cons (pe_int) (pa_cons (pe_op op_pow (pe_int) (pe_int)) (pa_nil)))))) (pa_nil)))) (pa_nil))))) (pg_tup rfl (pgs_cons (pg_name (i := 2) sc_made_right.nd rfl (Or.inr rfl)) (pgs_cons (pg_name (i := 3) sc_made_right.nd rfl (Or.inr rfl)) (pgs_cons (pg_name (i := 4) sc_made_right.nd rfl (Or.inr rfl)) (pgs_nil))))))
      (pss_cons (ps_asg (pv 1) (pg_tup rfl (pgs_cons (pg_name (i := 5) sc_made_right.nd rfl (Or.inl rfl)) (pgs_cons (pg_name (i := 6) sc_made_right.nd rfl (Or.inl rfl)) (pgs_cons (pg_name (i := 7) sc_made_right.nd rfl (Or.inl rfl)) (pgs_cons (pg_name (i := 8) sc_made_right.nd rfl (Or.inl rfl)) (pgs_nil)))))))
      (pss_cons (ps_set (i := 9) sc_made_right.nd rfl (Or.inl rfl) (pe_ifExp (pt_val (pv 8)) (pe_lst (pa_cons (pe_callTy (call_strW2 K (by rfl) (ok_Wheel_str T) (hr.mono (by decide)) (b_Wheel_str T) pass0 W.fnS) (by rfl) T.n_str (by decide +kernel) (pa_cons (pv 2) (pa_nil))) (pa_nil))) (pe_call (ok_due T) (hr.mono (by decide)) rfl T.m_due T.F_due.kp (b_due T) .nil pass0 (pa_cons (pe_tup (pa_cons (pv 5) (pa_cons (pe_op op_add (pv 6) (pv 3)) (pa_cons (pe_op op_add (pv 7) (pv 3)) (pa_cons (pe_bl) (pa_nil)))))) (pa_nil)))))
      (pss_cons (ps_if (pt_cmpR (op_neD hr.units) (pe_heard (k := 10) T B gu hr TB rfl hmT huT rfl (LamX.lamS_by (by show LamX.lamSB (defScope s_made_right) _ = true; decide +kernel)) rfl (fun _ _ _ _ _ => rfl) (fun A2 o2 s2 H2 E2 f2 c2 hr3 => pe_callTy (call_strW2 K (by rfl) (ok_Wheel_str T) (hr3.mono (by decide)) (b_Wheel_str T) pass0 W.fnS) (by rfl) T.n_str (by decide +kernel) (pa_cons (pe_methKW K (by rfl) (pv 2) (ok_Wheel_wider HP T W) (hr3.mono (by decide)) (kb_wider T) (passes_call (takes_of rfl rfl rfl rfl) (fun _ _ _ _ h => h)) (pk_cons (pv 3) pk_nil)) (pa_nil)))) (pv 9) (nomark _)) (pss_one (ps_ret (pe_bl))) (pss_nil))
      (pss_cons (ps_set (i := 9) sc_made_right.nd rfl (Or.inl rfl) (pe_call (ok_due T) (hr.mono (by decide)) rfl T.m_due T.F_due.kp (b_due T) .nil pass0 (pa_cons (pe_tup (pa_cons (pe_op op_mulW (pv 5) (pv 4)) (pa_cons (pe_op op_mulW (pv 6) (pv 4)) (pa_cons (pe_op op_mulW (pv 7) (pv 4)) (pa_cons (pv 8) (pa_nil)))))) (pa_nil))))
      (pss_cons (ps_if (pt_cmpR (op_neD hr.units) (pe_heard (k := 10) T B gu hr TB rfl hmT huT rfl (LamX.lamS_by (by show LamX.lamSB (defScope s_made_right) _ = true; decide +kernel)) rfl (fun _ _ _ _ _ => rfl) (fun A2 o2 s2 H2 E2 f2 c2 hr3 => pe_callTy (call_strW2 K (by rfl) (ok_Wheel_str T) (hr3.mono (by decide)) (b_Wheel_str T) pass0 W.fnS) (by rfl) T.n_str (by decide +kernel) (pa_cons (pe_op (op_binW K (by rfl) (ok_Wheel_mul HP T W) (hr3.mono (by decide)) (b_Wheel_mul T) (passes_call (takes_of rfl rfl rfl rfl) (fun _ _ _ _ h => h))) (pv 2) (pv 4)) (pa_nil)))) (pv 9) (nomark _)) (pss_one (ps_ret (pe_bl))) (pss_nil))
      (pss_cons (ps_if (pt_cmpR (op_neD hr.units) (pe_heard (k := 10) T B gu hr TB rfl hmT huT rfl (LamX.lamS_by (by show LamX.lamSB (defScope s_made_right) _ = true; decide +kernel)) rfl (fun _ _ _ _ _ => rfl) (fun A2 o2 s2 H2 E2 f2 c2 hr3 => pe_callTy (call_strW2 K (by rfl) (ok_Wheel_str T) (hr3.mono (by decide)) (b_Wheel_str T) pass0 W.fnS) (by rfl) T.n_str (by decide +kernel) (pa_cons (pe_call (ok_bound HP T W) (hr3.mono (by decide)) rfl T.m_bound T.F_bound.kp (b_bound T) .nil (passes_call (takes_of rfl rfl rfl rfl) (fun _ _ _ _ h => h)) (pa_cons (pv 2) (pa_cons (pv 4) (pa_nil)))) (pa_nil)))) (pv 9) (nomark _)) (pss_one (ps_ret (pe_bl))) (pss_nil))
      (pss_cons (ps_if (PW.pt (pw_or (pt_cmpR (op_neW K (by rfl) (ok_Wheel_eq T) (hr.mono (by decide)) (b_Wheel_eq T) pass0 W.fn) (pe_op (op_binW K (by rfl) (ok_Wheel_mul HP T W) (hr.mono (by decide)) (b_Wheel_mul T) passL) (pv 2) (pe_int)) (pv 2) (nomark _)) (pw_or (pt_cmpR (op_neW K (by rfl) (ok_Wheel_eq T) (hr.mono (by decide)) (b_Wheel_eq T) pass0 W.fn) (pe_methW K (by rfl) (pv 2) (ok_Wheel_wider HP T W) (hr.mono (by decide)) (b_Wheel_wider T) .nil passL (pa_cons (pe_int) (pa_nil))) (pv 2) (nomark _)) (pw_or (pt_cmpR (op_neD hr.units) (pe_lst (pa_cons (pe_callTy (call_strW2 K (by rfl) (ok_Wheel_str T) (hr.mono (by decide)) (b_Wheel_str T) pass0 W.fnS) (by rfl) T.n_str (by decide +kernel) (pa_cons (pv 2) (pa_nil))) (pa_nil))) (pe_call (ok_due T) (hr.mono (by decide)) rfl T.m_due T.F_due.kp (b_due T) .nil pass0 (pa_cons (pv 1) (pa_nil))) (nomark _)) (pw_or1 (pt_cmpR (op_neW K (by rfl) (ok_Wheel_eq T) (hr.mono (by decide)) (b_Wheel_eq T) pass0 W.fn) (pe_statK (pe_glob (v := .ref T.a_Wheel) rfl T.m_Wheel rfl) T.rdW T.st_read (ok_Wheel_read HP T W) (hr.mono (by decide)) (kb_read T) passL (pk_cons (pe_callTy (call_strW2 K (by rfl) (ok_Wheel_str T) (hr.mono (by decide)) (b_Wheel_str T) pass0 W.fnS) (by rfl) T.n_str (by decide +kernel) (pa_cons (pv 2) (pa_nil))) (pk_nil))) (pv 2) (nomark _))))))) (pss_one (ps_ret (pe_bl))) (pss_nil))
      (pss_cons (ps_asg (pe_tup (pa_cons (pe_call (ok_pick T) (hr.mono (by decide)) rfl T.m_pick T.F_pick.kp (b_pick T) .nil pass0 (pa_cons (pv 0) (pa_cons (pe_lst (pa_cons (pe_non) (pa_cons (pe_int) (pa_cons (pe_un un_neg (pe_int)) (pa_cons (pe_bl) (pa_cons (pe_str) (pa_cons (pe_op op_add (pe_op op_pow (pe_int) (pe_int)) (pe_int)) (pa_cons (pe_lst (pa_cons (pe_int) (pa_nil))) (pa_nil))))))))) (pa_nil)))) (pa_cons (pe_call (ok_pick T) (hr.mono (by decide)) rfl T.m_pick T.F_pick.kp (b_pick T) .nil pass0 (pa_cons (pv 0) (pa_cons (pe_lst (pa_cons (pe_non) (pa_cons (pe_un un_neg (pe_int)) (pa_cons (pe_bl) (pa_cons (pe_str) (pa_cons (pe_op op_add (pe_op op_pow (pe_int) (pe_int)) (pe_int)) (pa_cons (pe_tup (pa_cons (pe_int) (pa_nil))) (pa_nil)))))))) (pa_nil)))) (pa_nil)))) (pg_tup rfl (pgs_cons (pg_name (i := 10) sc_made_right.nd rfl (Or.inr rfl)) (pgs_cons (pg_name (i := 11) sc_made_right.nd rfl (Or.inr rfl)) (pgs_nil)))))
      (pss_cons (ps_set (i := 12) sc_made_right.nd rfl (Or.inl rfl) (pe_lst (pa_cons (pe_heard (k := 10) T B gu hr TB rfl hmT huT rfl (LamX.lamS_by (by show LamX.lamSB (defScope s_made_right) _ = true; decide +kernel)) rfl (fun _ _ _ _ _ => rfl) (fun A2 o2 s2 H2 E2 f2 c2 hr3 => pe_op (op_binW K (by rfl) (ok_Wheel_mul HP T W) (hr3.mono (by decide)) (b_Wheel_mul T) (passes_call (takes_of rfl rfl rfl rfl) (fun _ _ _ _ h => h))) (pv 2) (pv 10))) (pa_nil))))
      (pss_cons (ps_expr (pe_bm PySem.F.plainAttrs_list PySem.F.slot_list_append PySem.F.type_list_append mt_append (pv 12) (pa_cons (pe_heard (k := 10) T B gu hr TB rfl hmT huT rfl (LamX.lamS_by (by show LamX.lamSB (defScope s_made_right) _ = true; decide +kernel)) rfl (fun _ _ _ _ _ => rfl) (fun A2 o2 s2 H2 E2 f2 c2 hr3 => pe_methW K (by rfl) (pv 2) (ok_Wheel_wider HP T W) (hr3.mono (by decide)) (b_Wheel_wider T) .nil (passes_call (takes_of rfl rfl rfl rfl) (fun _ _ _ _ h => h)) (pa_cons (pv 11) (pa_nil)))) (pa_nil))))
      (pss_one (ps_ret (pe_cmpR (op_eqD hr.units) (pv 12) (pe_lst (pa_cons (pe_tup (pa_cons (pe_str) (pa_cons (pe_callB (call_rep gu hr.units) (by rfl) T.n_repr (by decide +kernel) (pa_cons (pv 10) (pa_nil))) (pa_nil)))) (pa_cons (pe_tup (pa_cons (pe_str) (pa_cons (pe_callB (call_rep gu hr.units) (by rfl) T.n_repr (by decide +kernel) (pa_cons (pv 11) (pa_nil))) (pa_nil)))) (pa_nil)))) (nomark _)))))))))))))), ?_⟩
    have hw : CPow 10 12 := ⟨by decide, by decide, by decide⟩
    have e12 : (10 : Int) ^ Int.toNat 12 = 1000000000000 := by decide
    have M0 : Md TL q n H H := Md.new hT hP
    have ht0 := core_sub _ _ ht
    refine ⟨_, rfl, t, tr, p, b, a, rfl, ht0, pa, fun y H1 s1 w1 => ?_⟩
    have M1 := M0.same s1
    have wy := w1.cor M1.pen
    have ht := M1.kp _ _ ht
    refine ⟨_, rfl, _, _, rfl, rfl, hw, (by show 4 ≤ sizeLine; decide), fun L hL => ?_⟩
    have sL := same_new (o := .lst [V.int 0, V.int 1, V.int 5, V.int (10 ^ Int.toNat 12)]) hL
    have M2 := M1.same sL
    refine ⟨q, L, [V.int 0, V.int 1, V.int 5, V.int (10 ^ Int.toNat 12)], n, rfl, SqL.of upd_same, M1.pen.neq hL, (by show 0 < 4; decide), (by show 4 < 1000000; decide), M2.pen, by omega, fun x H2 hx hP2 f2 => ?_⟩
    obtain ⟨k1, rfl, k10, k11⟩ : ∃ i : Int, x = .int i ∧ 0 ≤ i ∧ i ≤ 1000000000000 := by
      rw [e12] at hx
      simp only [List.mem_cons, List.not_mem_nil, or_false] at hx
      rcases hx with rfl | rfl | rfl | rfl <;> exact ⟨_, rfl, by decide, by decide⟩
    have M3 := M2.pick f2 hP2
    have wy := wy.same (M1.re.same sL).kp
    have wy := wy.same (M2.re.pick f2 hP2).kp
    have ht := (M1.re.same sL).kp _ _ ht
    have ht := (M2.re.pick f2 hP2).kp _ _ ht
    clear M2 M1 M0 hx sL f2
    refine ⟨_, rfl, _, _, rfl, rfl, hw, (by show 4 ≤ sizeLine; decide), fun L2 hL2 => ?_⟩
    have sL := same_new (o := .lst [V.int 1, V.int 2, V.int 1000, V.int (10 ^ Int.toNat 12)]) hL2
    have M4 := M3.same sL
    refine ⟨q, L2, [V.int 1, V.int 2, V.int 1000, V.int (10 ^ Int.toNat 12)], n + 1, rfl, SqL.of upd_same, M3.pen.neq hL2, (by show 0 < 4; decide), (by show 4 < 1000000; decide), M4.pen, by omega, fun x H3 hx hP3 f3 => ?_⟩
    obtain ⟨m1, rfl, m10, m11⟩ : ∃ i : Int, x = .int i ∧ 1 ≤ i ∧ i ≤ 1000000000000 := by
      rw [e12] at hx
      simp only [List.mem_cons, List.not_mem_nil, or_false] at hx
      rcases hx with rfl | rfl | rfl | rfl <;> exact ⟨_, rfl, by decide, by decide⟩
    have M5 := M4.pick f3 hP3
    have wy := wy.same (M3.re.same sL).kp
    have wy := wy.same (M4.re.pick f3 hP3).kp
    have ht := (M3.re.same sL).kp _ _ ht
    have ht := (M4.re.pick f3 hP3).kp _ _ ht
    clear M4 M3 hx sL f3
    refine tNil_to ⟨(by show 3 ≤ sizeLine; decide), fun tp htp => ⟨_, _, rfl, SqT.of upd_same, rfl, _, _, rfl, _, _, rfl, _, _, rfl, rfl, ?_⟩⟩
    have sL := same_new (o := .tup [V.ref y, V.int k1, V.int m1]) htp
    have M6 := M5.same sL
    have wy := wy.same (M5.re.same sL).kp
    have ht := (M5.re.same sL).kp _ _ ht
    generalize upd H3 tp (.tup [V.ref y, V.int k1, V.int m1]) = H4 at M6 wy ht ⊢
    clear M5 sL htp hP2 hP3 hP hT
    refine ⟨_, rfl, t, _, rfl, SqT.of (core_sub _ _ ht), rfl, _, _, rfl, _, _, rfl, _, _, rfl, _, _, rfl, rfl, ?_⟩
    refine ⟨_, rfl, tr, rfl, ?_⟩
    have p0 : 0 ≤ p := by have := pa.hp.1; omega
    have b0 := pa.hb.1
    have a0 := pa.ha.1
    rcases tr with _ | _
    case' false =>
      refine if_false_of rfl ⟨_, rfl, _, rfl, _, rfl, _, _, rfl, rfl, _, rfl, _, rfl, _, _, rfl, rfl, (by show 4 ≤ sizeLine; decide), fun t' ht' => ?_⟩
      have sL := same_new (o := .tup [V.int p, V.int (b + k1), V.int (a + k1), V.bl false]) ht'
      refine ⟨t', false, p, b + k1, a + k1, rfl, upd_same, p0, by omega, by omega, fun r H5 hr' s5 D => ?_⟩
      have M7 := (M6.same sL).same s5
      have wy := wy.same (M6.re.same (sL.trans s5)).kp
      have ht := (M6.re.same (sL.trans s5)).kp _ _ ht
      have D := D.cor (q := q) ((M6.same sL).pen.neq hr')
      obtain ⟨bk, ak, hbk, hak, D, bk0, ak0⟩ : ∃ bk ak : Int, (false = true → bk = 0 ∧ ak = 0) ∧ (false = false → bk = b + k1 ∧ ak = a + k1) ∧ DueAt (core q H5) r false p bk ak ∧ 0 ≤ bk ∧ 0 ≤ ak := ⟨b + k1, a + k1, fun z => absurd z (by decide), fun _ => ⟨rfl, rfl⟩, D, by omega, by omega⟩
      clear M6 sL s5 ht' hr'
    case' true =>
      refine if_true_of rfl ⟨_, rfl, tNil_to (str_of wy.up pa (tNil_to ⟨(by show 1 ≤ sizeLine; decide), fun r hr' => ?_⟩))⟩
      have sL := same_new (o := .lst [V.str (NX.wtext true p b a)]) hr'
      have M7 := M6.same sL
      have wy := wy.same (M6.re.same sL).kp
      have ht := (M6.re.same sL).kp _ _ ht
      have D : DueAt (upd H4 r (.lst [V.str (NX.wtext true p b a)])) r true p b a := by
        unfold DueAt
        rw [if_neg (by have := pa.hp.2; omega), if_neg (by have := pa.hb.2; omega), if_neg (by have := pa.ha.2; omega), upd_same]
      have D := D.cor (q := q) (M6.pen.neq hr')
      obtain ⟨bk, ak, hbk, hak, D, bk0, ak0⟩ : ∃ bk ak : Int, (true = true → bk = 0 ∧ ak = 0) ∧ (true = false → bk = b + k1 ∧ ak = a + k1) ∧ DueAt (core q (upd H4 r (.lst [V.str (NX.wtext true p b a)]))) r true p bk ak ∧ 0 ≤ bk ∧ 0 ≤ ak := ⟨b, a, pa.ht, fun z => absurd z (by decide), D, b0, a0⟩
      generalize upd H4 r (.lst [V.str (NX.wtext true p b a)]) = H5 at M7 wy ht D ⊢
      clear M6 sL hr'
    all_goals
      have Z := M7.kp
      refine ⟨M7.tabs, fun A0 x0 t0 M hM => ?_⟩
      have M8 := M7.re.ext x0 t0
      have wy := wy.same M8.kp
      have D := D.same M8.kp
      have ht := M8.kp _ _ ht
      have Z := Z.trans M8.kp
      clear M7 x0 t0
      obtain ⟨C1, f1, wc, hC1, dx1, hx1⟩ := wy.up.same (same_new (o := .lst []) hM)
      refine ⟨_, rfl, y, C1, dx1, _, rfl, hx1, wc.w.w.cls, wc.wider, rfl, _, rfl, wider_due hM wy.up pa k10 k11 hbk hak fun r' H6 s6 D6 => ?_⟩
      have M9 := M8.re.same s6
      have wy := wy.same M9.kp
      have D := D.same M9.kp
      have ht := M9.kp _ _ ht
      have Z := Z.trans M9.kp
      clear M8 s6 hM wc hC1 hx1
      refine ⟨_, rfl, ne_due p0 bk0 ak0 D6 (D.same core_sub) ⟨_, rfl, iteF ?_⟩⟩
      clear D6 D hbk hak bk0 ak0
      have cm : ∀ z : Int, 0 ≤ z → z ≤ 1000000000000 → CMulW z m1 := fun z z0 z1 => wide_mul (a := 64) (b := 64) (by omega) (by omega) (by decide) (by decide) (by decide)
      refine ⟨_, rfl, _, rfl, _, _, rfl, rfl, cm p p0 pa.hp.2, _, rfl, _, rfl, _, _, rfl, rfl, cm _ pa.hb.1 pa.hb.2, _, rfl, _, rfl, _, _, rfl, rfl, cm _ pa.ha.1 pa.ha.2, _, rfl, (by show 4 ≤ sizeLine; decide), fun t' ht' => ?_⟩
      obtain ⟨tm1, tm2, tm3, tm4⟩ := times_pos pa m10
      have sL := fun o => same_new (o := o) ht'
      refine ⟨t', _, _, _, _, rfl, upd_same, (by omega), tm2, tm3, fun r2 H7 hr' s7 D => ?_⟩
      have M10 := (M9.re.same (sL _)).same s7
      have wy := wy.same M10.kp
      have ht := M10.kp _ _ ht
      have Z := Z.trans M10.kp
      have D := D.cor (q := q) ((M9.same (sL _)).pen.neq hr')
      clear sL hr' s7 ht' M9
      refine ⟨M10.tabs, fun A0 x0 t0 M hM => ?_⟩
      have M8 := M10.re.ext x0 t0
      have wy := wy.same M8.kp
      have D := D.same M8.kp
      have ht := M8.kp _ _ ht
      have Z := Z.trans M8.kp
      clear M10 x0 t0
      obtain ⟨C1, f1, wc, hC1, dx1, hx1⟩ := wy.up.same (same_new (o := .lst []) hM)
      refine ⟨_, rfl, _, rfl, y, C1, dx1, _, "int", rfl, hx1, (NT.int _).ty, wc.mul "int" (by simp), mul_due hM wy.up pa m10 m11 fun r' H6 s6 D6 => ?_⟩
      have M9 := M8.re.same s6
      have wy := wy.same M9.kp
      have D := D.same M9.kp
      have ht := M9.kp _ _ ht
      have Z := Z.trans M9.kp
      clear M8 s6 hM wc hC1 hx1
      refine ⟨_, rfl, ne_due (by omega) tm2 tm3 D6 (D.same core_sub) ⟨_, rfl, iteF ?_⟩⟩
      clear D6
      refine ⟨M9.tabs, fun A0 x0 t0 M hM => ?_⟩
      have M8 := M9.re.ext x0 t0
      have wy := wy.same M8.kp
      have D := D.same M8.kp
      have ht := M8.kp _ _ ht
      have Z := Z.trans M8.kp
      clear M9 x0 t0
      refine ⟨_, rfl, _, rfl, tNil_to (bound_due hM wy.up pa m10 m11 rfl (fun _ _ z => z) fun r' H6 s6 D6 => ?_)⟩
      have M9 := M8.re.same s6
      have wy := wy.same M9.kp
      have D := D.same M9.kp
      have ht := M9.kp _ _ ht
      have Z := Z.trans M9.kp
      clear M8 s6 hM
      refine ⟨_, rfl, ne_due (by omega) tm2 tm3 D6 (D.same core_sub) ⟨_, rfl, iteF ?_⟩⟩
      clear D6 D tm1 tm2 tm3 tm4 cm
      obtain ⟨C1, f1, wc, hC1, dx1, hx1⟩ := id wy.up
      refine ⟨_, rfl, y, C1, dx1, _, "int", rfl, hx1, (NT.int _).ty, wc.mul "int" (by simp), mul_one wy.up pa fun z H7 s7 wz => ⟨z, rfl, _, rfl, ?_⟩⟩
      have M8 := M9.re.same s7
      have wy := wy.same M8.kp
      have ht := M8.kp _ _ ht
      have Z := Z.trans M8.kp
      have hx1 := s7 _ _ hx1
      clear M9 s7
      refine ne_as (W := W) wz wy.up ⟨_, rfl, iteF ?_⟩
      clear wz
      refine ⟨_, rfl, y, C1, dx1, _, rfl, hx1, wc.w.w.cls, wc.wider, rfl, tC1_to (wider_none wy.up pa fun z H8 s8 wz => ⟨_, rfl, ?_⟩)⟩
      have M9 := M8.re.same s8
      have wy := wy.same M9.kp
      have ht := M9.kp _ _ ht
      have Z := Z.trans M9.kp
      clear M8 s8 hx1
      refine ne_as (W := W) wz wy.up ⟨_, rfl, iteF ?_⟩
      clear wz
      refine ⟨_, rfl, tNil_to (str_of wy.up pa (tNil_to ⟨(by show 1 ≤ sizeLine; decide), fun r4 hr4 => ?_⟩))⟩
      obtain ⟨H9, e9, s9, D⟩ := own_new pa hr4
      rw [← e9]
      clear e9 hr4
      have M8 := M9.re.same s9
      have wy := wy.same M8.kp
      have ht := M8.kp _ _ ht
      have Z := Z.trans M8.kp
      clear M9 s9
      refine ⟨_, rfl, t, _, _, _, _, rfl, core_sub _ _ ht, p0, b0, a0, fun r5 H10 hr5 s10 D5 => ?_⟩
      have M9 := M8.re.same s10
      have wy := wy.same M9.kp
      have ht := M9.kp _ _ ht
      have Z := Z.trans M9.kp
      have D := D.same s10
      clear M8 s10 hr5
      refine ne_due p0 b0 a0 D D5 ⟨_, rfl, iteF ?_⟩
      clear D D5
      refine ⟨rfl, _, rfl, tNil_to (str_of wy.up pa (tNil_to (read_str pa fun z H11 s11 wz => ⟨_, rfl, ?_⟩)))⟩
      have M8 := M9.re.same s11
      have wy := wy.same M8.kp
      have ht := M8.kp _ _ ht
      have Z := Z.trans M8.kp
      clear M9 s11
      refine ne_as (W := W) wz wy.up ⟨_, rfl, iteF ?_⟩
      clear wz wc hC1
      refine ⟨_, rfl, 1, rfl, _, _, rfl, rfl, hw, _, _, rfl, rfl, (by show 1 ≤ sizeLine; decide), fun a1 h1 => ?_⟩
      have s1 := same_new (o := .lst [V.int 2]) h1
      have M9 := M8.re.same s1
      have wy := wy.same M9.kp
      have ht := M9.kp _ _ ht
      have Z := Z.trans M9.kp
      have n1 := M8.pen.neq h1
      have e1 : core q (upd H11 a1 (.lst [V.int 2])) a1 = some (.lst [V.int 2]) := core_at upd_same n1 (fun _ z => nomatch z)
      generalize upd H11 a1 (.lst [V.int 2]) = G1 at M9 wy ht Z e1 ⊢
      clear M8 s1 h1
      refine ⟨(by show 7 ≤ sizeLine; decide), fun L1 hL1 => ?_⟩
      change spPick K [V.ref q, V.ref L1] (upd G1 L1 (.lst [V.non, V.int 0, V.int (-1), V.bl true, V.str "2", V.int 1000000000001, V.ref a1])) _ E0
      have s1 := same_new (o := .lst [V.non, V.int 0, V.int (-1), V.bl true, V.str "2", V.int 1000000000001, V.ref a1]) hL1
      have M8 := M9.re.same s1
      have wy := wy.same M8.kp
      have ht := M8.kp _ _ ht
      have Z := Z.trans M8.kp
      have e1 := M8.kp _ _ e1
      refine ⟨q, L1, [V.non, V.int 0, V.int (-1), V.bl true, V.str "2", V.int 1000000000001, V.ref a1], n + 2, rfl, SqL.of upd_same, M9.pen.neq hL1, (by show 0 < 7; decide), (by show 7 < 1000000; decide), M8.pen, by omega, fun ov G2 hx hP2 f2 => ?_⟩
      have oo : ∃ d, OddV K (core q (upd G1 L1 (.lst [V.non, V.int 0, V.int (-1), V.bl true, V.str "2", V.int 1000000000001, V.ref a1]))) 1 tysM ov d := by
        simp only [List.mem_cons, List.not_mem_nil, or_false] at hx
        rcases hx with rfl | rfl | rfl | rfl | rfl | rfl | rfl
        · exact ⟨.none, ⟨_, by decide, .non⟩, rfl, ⟨.dp .non, by decide, by decide, by decide +kernel⟩, by decide +kernel⟩
        · exact ⟨.int 0, ⟨_, by decide, .int _⟩, by decide, ⟨.dp (.int _), by decide, by decide, by decide +kernel⟩, by decide +kernel⟩
        · exact ⟨.int (-1), ⟨_, by decide, .int _⟩, by decide, ⟨.dp (.int _), by decide, by decide, by decide +kernel⟩, by decide +kernel⟩
        · exact ⟨.bool true, ⟨_, by decide, .bl _⟩, rfl, ⟨.dp (.bl _), by decide, by decide, by decide +kernel⟩, by decide +kernel⟩
        · exact ⟨.str "2", ⟨_, by decide, .str _⟩, rfl, ⟨.dp (.str _), by decide, by decide, by decide +kernel⟩, by decide +kernel⟩
        · exact ⟨.int 1000000000001, ⟨_, by decide, .int _⟩, by decide, ⟨.dp (.int _), by decide, by decide, by decide +kernel⟩, by decide +kernel⟩
        · exact ⟨.list [.int 2], ⟨_, by decide, .lst e1⟩, rfl, ⟨.dp (.lst (SqL.of e1) (.cons (.int _) .nil)), by decide, by decide, by decide +kernel⟩, by decide +kernel⟩
      obtain ⟨od, oo⟩ := oo
      have M9 := M8.re.pick f2 hP2
      have wy := wy.same M9.kp
      have ht := M9.kp _ _ ht
      have Z := Z.trans M9.kp
      have oo := oo.same M9.kp
      clear M8 s1 hL1 hx f2 hP2 e1 n1
      refine ⟨_, rfl, 1, rfl, _, _, rfl, rfl, hw, _, _, rfl, rfl, (by show 1 ≤ sizeLine; decide), fun a1 h1 => ?_⟩
      have s1 := same_new (o := .tup [V.int 1]) h1
      have M8 := M9.re.same s1
      have wy := wy.same M8.kp
      have ht := M8.kp _ _ ht
      have Z := Z.trans M8.kp
      have oo := oo.same M8.kp
      have n1 := M9.pen.neq h1
      have e1 : core q (upd G2 a1 (.tup [V.int 1])) a1 = some (.tup [V.int 1]) := core_at upd_same n1 (fun _ z => nomatch z)
      generalize upd G2 a1 (.tup [V.int 1]) = G3 at M8 wy ht Z oo e1 ⊢
      clear M9 s1 h1
      refine ⟨(by show 6 ≤ sizeLine; decide), fun L1 hL1 => ?_⟩
      change spPick K [V.ref q, V.ref L1] (upd G3 L1 (.lst [V.non, V.int (-1), V.bl true, V.str "2", V.int 1000000000001, V.ref a1])) _ E0
      have s1 := same_new (o := .lst [V.non, V.int (-1), V.bl true, V.str "2", V.int 1000000000001, V.ref a1]) hL1
      have M9 := M8.re.same s1
      have wy := wy.same M9.kp
      have ht := M9.kp _ _ ht
      have Z := Z.trans M9.kp
      have oo := oo.same M9.kp
      have e1 := M9.kp _ _ e1
      refine ⟨q, L1, [V.non, V.int (-1), V.bl true, V.str "2", V.int 1000000000001, V.ref a1], n + 3, rfl, SqL.of upd_same, M8.pen.neq hL1, (by show 0 < 6; decide), (by show 6 < 1000000; decide), M9.pen, by omega, fun bv G4 hx hP2 f2 => ?_⟩
      have ob : ∃ d, OddV K (core q (upd G3 L1 (.lst [V.non, V.int (-1), V.bl true, V.str "2", V.int 1000000000001, V.ref a1]))) 0 tysW bv d := by
        simp only [List.mem_cons, List.not_mem_nil, or_false] at hx
        rcases hx with rfl | rfl | rfl | rfl | rfl | rfl
        · exact ⟨.none, ⟨_, by decide, .non⟩, rfl, ⟨.dp .non, by decide, by decide, by decide +kernel⟩, by decide +kernel⟩
        · exact ⟨.int (-1), ⟨_, by decide, .int _⟩, by decide, ⟨.dp (.int _), by decide, by decide, by decide +kernel⟩, by decide +kernel⟩
        · exact ⟨.bool true, ⟨_, by decide, .bl _⟩, rfl, ⟨.dp (.bl _), by decide, by decide, by decide +kernel⟩, by decide +kernel⟩
        · exact ⟨.str "2", ⟨_, by decide, .str _⟩, rfl, ⟨.dp (.str _), by decide, by decide, by decide +kernel⟩, by decide +kernel⟩
        · exact ⟨.int 1000000000001, ⟨_, by decide, .int _⟩, by decide, ⟨.dp (.int _), by decide, by decide, by decide +kernel⟩, by decide +kernel⟩
        · exact ⟨.tuple [.int 1], ⟨_, by decide, .tup e1⟩, rfl, ⟨.dp (.tup (SqT.of e1) (.cons (.int _) .nil)), by decide, by decide, by decide +kernel⟩, by decide +kernel⟩
      obtain ⟨bd, ob⟩ := ob
      have M8 := M9.re.pick f2 hP2
      have wy := wy.same M8.kp
      have ht := M8.kp _ _ ht
      have Z := Z.trans M8.kp
      have oo := oo.same M8.kp
      have ob := ob.same M8.kp
      clear M9 s1 hL1 hx f2 hP2 e1 n1
      refine tNil_to ⟨(by show 2 ≤ sizeLine; decide), fun tp htp => ⟨_, _, rfl, SqT.of upd_same, rfl, _, _, rfl, _, _, rfl, rfl, ?_⟩⟩
      have s1 := same_new (o := .tup [ov, bv]) htp
      have M9 := M8.re.same s1
      have wy := wy.same M9.kp
      have ht := M9.kp _ _ ht
      have Z := Z.trans M9.kp
      have oo := oo.same M9.kp
      have ob := ob.same M9.kp
      generalize upd G4 tp (.tup [ov, bv]) = G5 at M9 wy ht Z oo ob ⊢
      clear M8 s1 htp
      refine ⟨M9.tabs, fun A1 x0 t0 M hM => ?_⟩
      have M8 := M9.re.ext x0 t0
      have wy := wy.same M8.kp
      have Z := Z.trans M8.kp
      have oo := oo.same M8.kp
      have ob := ob.same M8.kp
      clear M9 x0 t0 ht
      obtain ⟨C1, f1, wc, hC1, dx1, hx1⟩ := wy.up.same (same_new (o := .lst []) hM)
      obtain ⟨to, hto, nto⟩ := oo.ty
      refine ⟨_, rfl, _, rfl, y, C1, dx1, _, to, rfl, hx1, (nto.same (core_sub.trans (same_new hM))).ty, wc.mul to hto, odd_mul hM wy.up pa (oo.same core_sub) fun U G6 s6 hU eU => tNil_to ⟨(by show 1 ≤ sizeLine; decide), fun L hL => ?_⟩⟩
      have s1 := same_new (o := .lst [V.ref U]) hL
      have M9 := (M8.re.same s6).same s1
      have nU := M8.pen.neq hU
      have nL := (M8.same s6).pen.neq hL
      have wy := wy.same M9.kp
      have noL : core q H L = Option.none := by
        match z : core q H L with
        | Option.none => rfl
        | some o => rw [s6 _ _ (core_sub _ _ (Z _ _ z))] at hL; cases hL
      have noB : core q A1 L = Option.none := by
        match z : core q A1 L with
        | Option.none => rfl
        | some o => rw [s6 _ _ (core_sub _ _ z)] at hL; cases hL
      have Z := Z.trans M9.kp
      have Y := M9.kp
      have eL : core q (upd G6 L (.lst [V.ref U])) L = some (.lst [V.ref U]) := core_at upd_same nL (fun _ z => nomatch z)
      have eU : core q (upd G6 L (.lst [V.ref U])) U = some (.tup [.str "number", .str od.shown]) := core_at (s1 _ _ eU) nU (fun _ z => nomatch z)
      generalize upd G6 L (.lst [V.ref U]) = G7 at M9 wy Z Y eL eU ⊢
      have UL : U ≠ L := fun z => by rw [z, eL] at eU; cases eU
      clear M8 s6 s1 hM hU hL nto wc hC1 hx1
      refine ⟨_, rfl, .inl ⟨rfl, _, SqL.of (core_sub _ _ eL)⟩, M9.tabs, fun A0 x0 t0 M hM => ?_⟩
      have M8 := M9.re.ext x0 t0
      have wy := wy.same M8.kp
      have Z := Z.trans M8.kp
      have Y := Y.trans M8.kp
      have eL := M8.kp _ _ eL
      have eU := M8.kp _ _ eU
      clear M9 x0 t0
      obtain ⟨C1, f1, wc, hC1, dx1, hx1⟩ := wy.up.same (same_new (o := .lst []) hM)
      refine ⟨_, rfl, y, C1, dx1, _, rfl, hx1, wc.w.w.cls, wc.wider, rfl, _, rfl, tNil_to (odd_wider hM wy.up pa ((ob.same Y).same core_sub) fun U2 G8 s8 hU2 eU2 => ?_)⟩
      have M9 := M8.re.same s8
      have nU2 := M8.pen.neq hU2
      have Z := Z.trans M9.kp
      have Y := Y.trans M9.kp
      have eL := M9.kp _ _ eL
      have eU := M9.kp _ _ eU
      have eU2 : core q G8 U2 = some (.tup [.str "number", .str bd.shown]) := core_at eU2 nU2 (fun _ z => nomatch z)
      have U2L : U2 ≠ L := fun z => by rw [z, eL] at eU2; cases eU2
      clear M8 s8 hM hU2 wc hC1 hx1 wy
      refine tNil_to ⟨L, [V.ref U], V.ref U2, rfl, rfl, core_sub _ _ eL, (by show 1 < sizeLine; decide), ?_⟩
      have hp9 : Pen (upd G8 L (.lst ([V.ref U] ++ [V.ref U2]))) q (n + 4) := pen_upd M9.pen nL (core_sub _ _ eL)
      have ht9 : LamX.Tabs TL (upd G8 L (.lst ([V.ref U] ++ [V.ref U2]))) := tabs_upd (core_sub _ _ eL) M9.tabs
      have Z := core_upd (o := .lst ([V.ref U] ++ [V.ref U2])) Z noL
      have Y := core_upd (o := .lst ([V.ref U] ++ [V.ref U2])) Y noB
      have eU : (upd G8 L (.lst ([V.ref U] ++ [V.ref U2]))) U = some (.tup [.str "number", .str od.shown]) := by rw [upd_ne UL]; exact core_sub _ _ eU
      have eU2 : (upd G8 L (.lst ([V.ref U] ++ [V.ref U2]))) U2 = some (.tup [.str "number", .str bd.shown]) := by rw [upd_ne U2L]; exact core_sub _ _ eU2
      have eL : (upd G8 L (.lst ([V.ref U] ++ [V.ref U2]))) L = some (.lst [V.ref U, V.ref U2]) := upd_same
      have oo := (oo.same Y).same core_sub
      have ob := (ob.same Y).same core_sub
      have M8 : Md TL q (n + 4) H (upd G8 L (.lst ([V.ref U] ++ [V.ref U2]))) := ⟨ht9, hp9, Z⟩
      clear hp9 ht9 Z Y M9 noL noB UL U2L
      generalize upd G8 L (.lst ([V.ref U] ++ [V.ref U2])) = J0 at M8 eU eU2 eL oo ob ⊢
      refine ⟨_, rfl, _, rfl, tNil_to ⟨ov, od, rfl, oo.sh.dq, oo.sh.sh, oo.sh.dep, .inr oo.sh.len, (by show 2 ≤ sizeLine; decide), fun V1 hV1 => ?_⟩⟩
      have s1 := same_new (o := .tup [.str "number", .str od.shown]) hV1
      have ob := ob.same s1
      refine ⟨_, rfl, tNil_to ⟨bv, bd, rfl, ob.sh.dq, ob.sh.sh, ob.sh.dep, .inr ob.sh.len, (by show 2 ≤ sizeLine; decide), fun V2 hV2 => ?_⟩⟩
      have s2 := same_new (o := .tup [.str "number", .str bd.shown]) hV2
      refine ⟨(by show 2 ≤ sizeLine; decide), fun N hN => ?_⟩
      have s3 := same_new (o := .lst [V.ref V1, V.ref V2]) hN
      have sA := (s1.trans s2).trans s3
      have lay := pair_lay oo.ok ob.ok
      refine ⟨.list [.tuple [.str "number", .str od.shown], .tuple [.str "number", .str bd.shown]], .list [.tuple [.str "number", .str od.shown], .tuple [.str "number", .str bd.shown]], .lst (SqL.of (sA _ _ eL)) (.cons (.tup (SqT.of (sA _ _ eU)) (.cons (.str _) (.cons (.str _) .nil))) (.cons (.tup (SqT.of (sA _ _ eU2)) (.cons (.str _) (.cons (.str _) .nil))) .nil)),
        .lst (SqL.of upd_same) (.cons (.tup (SqT.of (s3 _ _ (s2 _ _ upd_same))) (.cons (.str _) (.cons (.str _) .nil))) (.cons (.tup (SqT.of (s3 _ _ upd_same)) (.cons (.str _) (.cons (.str _) .nil))) .nil)), lay.2, lay.2, ?_⟩
      rw [PySem.SeqAt.eqv_refl _ lay.1]
      exact k _ (M8.same sA)

def spLaw (K : PySem.W.Frag) (TL : List (Addr × Str)) : Sp := fun vs H Q _ => ∃ (a : Addr) (ns : List Int), vs = [.ref a] ∧ SqL K H a (ns.map V.int) ∧ ns.length ≤ 63 ∧ LamX.Tabs TL H ∧ ∀ H', Q (.bl true) H'
theorem read_lit {T : Txt K mg} {H : Hp} {Q : VK} {E : XK} {z : Str} {tr : Bool} {p b a : Int} (e : z = NX.wtext tr p b a) (pa : Parts tr p b a) (k : ∀ (y : Addr) H', Same H H' → WhE T H' y tr p b a → Q (.ref y) H') : spRead T [.str z] H Q E := e ▸ read_str pa k
theorem ok_law (HP : PrF lawFile P) (T : Txt K mg) (W : Whl T) (B : Caught T) {TL : List (Addr × Str)} {c c2 P1 P2 : Addr} {oc oc2 : Value} {od an od2 an2 : Option Addr} {osl osl2 : Array (Option Value)} {kV doc pm ct kV2 doc2 pm2 ct2 : Value}
    (lk : K.lookup T.a_made_right = some ⟨oc, od, .func (PySem.W.fnOf "_law_made_right" "_law_made_right" (defArgs s_made_right) (defBody s_made_right) (defScope s_made_right) .none kV doc pm an (.ref c) ct), osl⟩) (hcd : PySem.W.codeIn K (.ref c) "_law_made_right" = true)
    (TB : LamX.TabB base mg c P1) (hm1 : (P1, ("_law_made_right.<locals>.<lambda>" : Str)) ∈ TL) (hu1 : ∀ p ∈ TL, p.1 = P1 → p.2 = "_law_made_right.<locals>.<lambda>")
    (lk2 : K.lookup T.a_read_right = some ⟨oc2, od2, .func (PySem.W.fnOf "_law_read_right" "_law_read_right" (defArgs s_read_right) (defBody s_read_right) (defScope s_read_right) .none kV2 doc2 pm2 an2 (.ref c2) ct2), osl2⟩) (hcd2 : PySem.W.codeIn K (.ref c2) "_law_read_right" = true)
    (TB2 : LamX.TabB base mg c2 P2) (hm2 : (P2, ("_law_read_right.<locals>.<lambda>" : Str)) ∈ TL) (hu2 : ∀ p ∈ TL, p.1 = P2 → p.2 = "_law_read_right.<locals>.<lambda>") : FnG P w K mg base CX0 14 T.a_law (spLaw K TL) := by
  have OM := ok_made_right (P := P) (w := w) HP T W B lk hcd ((fun_mk (st := s_made_right) lk hcd T.F_made_right.kp).binds (ps := ["_law_pen_here", "_law_plain"]) fun _ _ _ _ _ _ us hl => match us, hl with | [_, _], _ => rfl) TB hm1 hu1
  have OR := ok_read_right (P := P) (w := w) HP T W B lk2 hcd2 ((fun_mk (st := s_read_right) lk2 hcd2 T.F_read_right.kp).binds (ps := ["_law_pen_here", "_law_plain"]) fun _ _ _ _ _ _ us hl => match us, hl with | [_, _], _ => rfl) TB2 hm2 hu2
  refine FnG.mk0 T.F_law sc_law (b_law T) (fun vs H Q E h => ?_) (fun cdv A outer s H vs Q E gu hr h => ?_)
  · obtain ⟨a, ns, rfl, _⟩ := h; rfl
  · obtain ⟨a, ns, rfl, hS, hl, hT, k⟩ := h
    refine ⟨_, pss_cons (ps_set (i := 1) sc_law.nd rfl (Or.inl rfl) (pe_call (ok_pen T) (hr.mono (by decide)) rfl T.m_pen T.F_pen.kp (b_pen T) .nil pass0 (pa_cons (pv 0) (pa_nil))))
      (pss_cons (ps_for PassesOwn.never rfl (pi_range1 (by rfl) T.n_range (pa_cons (pe_int) (pa_nil))) (pg_name (i := 2) sc_law.nd rfl (Or.inl rfl)) (pss_cons (ps_set (i := 3) sc_law.nd rfl (Or.inl rfl) (pe_call (ok_wheel T) (hr.mono (by decide)) rfl T.m_wheel T.F_wheel.kp (b_wheel T) .nil pass0 (pa_cons (pv 1) (pa_nil))))
      (pss_one (ps_if (PW.pt (pw_or (pt_not (pt_val (pe_callG gu OM (hr.mono (by decide)) T.F_made_right.kp rfl T.m_made_right pass0 (pa_cons (pv 1) (pa_cons (pv 3) (pa_nil)))))) (pw_or1 (pt_not (pt_val (pe_callG gu OR (hr.mono (by decide)) T.F_read_right.kp rfl T.m_read_right pass0 (pa_cons (pv 1) (pa_cons (pv 3) (pa_nil))))))))) (pss_one (ps_ret (pe_bl))) (pss_nil)))))
      (pss_one (ps_ret (pe_and (pe_callB call_isi (by rfl) T.n_isinstance (by decide +kernel) (pa_cons (pe_stat (pe_glob (v := .ref T.a_Wheel) rfl T.m_Wheel rfl) T.rdW T.st_read ((ok_Wheel_read HP T W).raw (b_Wheel_read T) .nil) (hr.mono (by decide)) passL (pa_cons (pe_str) (pa_nil))) (pa_cons (pe_glob (v := .ref T.a_Grid) rfl T.m_Grid rfl) (pa_nil)))) (pe_one (pe_not (pe_callB call_isi (by rfl) T.n_isinstance (by decide +kernel) (pa_cons (pe_stat (pe_glob (v := .ref T.a_Wheel) rfl T.m_Wheel rfl) T.rdW T.st_read ((ok_Wheel_read HP T W).raw (b_Wheel_read T) .nil) (hr.mono (by decide)) passL (pa_cons (pe_str) (pa_nil))) (pa_cons (pe_glob (v := .ref T.a_Grid) rfl T.m_Grid rfl) (pa_nil)))))))))), ?_⟩
    refine ⟨_, rfl, a, ns, rfl, hS, hl, fun p H1 s1 hP => ?_⟩
    refine ⟨8, rfl, by decide, by decide, for_range (n := 8) (fun i σ H' => ∃ x2 x3 : Option V, σ = [some (.ref a), some (.ref p), x2, x3] ∧ Pen H' p (20 * i) ∧ LamX.Tabs TL H')
      ⟨_, _, rfl, hP, hT.ext s1⟩ ?_ ?_⟩
    · rintro i σ H2 hi ⟨x2, x3, rfl, hP2, hT2⟩
      refine ⟨_, rfl, p, 20 * i, rfl, hP2, by omega, fun t H3 tr pp b a' ht pa hP3 f3 nt => ?_⟩
      have M3 : Md TL p (20 * i + 6) H3 H3 := Md.new (tabs_fr f3 hP2 hT2) hP3
      have ht3 : PlainAt (core p H3) t tr pp b a' := core_at ht nt (fun _ z => nomatch z)
      refine ⟨_, rfl, _, rfl, p, t, tr, pp, b, a', 20 * i + 6, rfl, hP3, by omega, ht3, pa, M3.tabs, fun H4 M4 => ⟨true, rfl, iteF ?_⟩⟩
      refine ⟨_, rfl, _, rfl, p, t, tr, pp, b, a', 20 * i + 10, rfl, M4.pen, by omega, M4.kp _ _ ht3, pa, M4.tabs, fun H5 M5 => ⟨true, rfl, iteF ?_⟩⟩
      exact ⟨_, _, rfl, M5.pen, M5.tabs⟩
    · rintro σ H2 ⟨x2, x3, rfl, hP2, hT2⟩
      have e1 : ("grid 7" : Str) = NX.wtext true 7 0 0 := by decide
      have e2 : ("wheel 7 0 0" : Str) = NX.wtext false 7 0 0 := by decide
      refine ⟨rfl, tC1_to (read_lit e1 ⟨⟨by decide, by decide⟩, ⟨by decide, by decide⟩, ⟨by decide, by decide⟩, fun _ => ⟨rfl, rfl⟩⟩ fun z H3 s3 wz => ?_)⟩
      obtain ⟨C, f, wc, hC, dx, hx⟩ := wz
      refine tC1_to ⟨.ref z, .ref T.a_Grid, .ref C, .ref T.a_Grid, true, rfl, (by constructor), wc.ty _ z dx _ hx, wc.gr, ?_⟩
      refine ⟨true, rfl, iteT ⟨rfl, tC1_to (read_lit e2 ⟨⟨by decide, by decide⟩, ⟨by decide, by decide⟩, ⟨by decide, by decide⟩, fun z => by cases z⟩ fun z2 H4 s4 wz2 => ?_)⟩⟩
      obtain ⟨C2, f2, wc2, hC2, dx2, hx2⟩ := wz2
      refine tC1_to ⟨.ref z2, .ref T.a_Grid, .ref C2, .ref T.a_Grid, false, rfl, (by constructor), wc2.ty _ z2 dx2 _ hx2, wc2.gr, ?_⟩
      exact ⟨false, rfl, k _⟩


end
theorem all_mk {l : PySem.W.OpenLaw} {w : World} {K : PySem.W.Frag} {h : Heap} {mg : Str → Option Value} {fa : Addr} (X : K.In h) (G : h.Ns mainGlobals mg) (hfa : mg "law" = some (.ref fa)) (tabs : ∀ x ∈ (["_law_made_right", "_law_read_right"] : List Str), TabOf K mg h x)
    {f_is_whole : Addr} {od_is_whole an_is_whole : Option Addr} {sl_is_whole : Array (Option Value)} {oc_is_whole kV_is_whole dc_is_whole pm_is_whole cd_is_whole ct_is_whole : Value}
    {f_is_between : Addr} {od_is_between an_is_between : Option Addr} {sl_is_between : Array (Option Value)} {oc_is_between kV_is_between dc_is_between pm_is_between cd_is_between ct_is_between : Value}
    {f_number_in : Addr} {od_number_in an_number_in : Option Addr} {sl_number_in : Array (Option Value)} {oc_number_in kV_number_in dc_number_in pm_number_in cd_number_in ct_number_in : Value}
    {f_need_part : Addr} {od_need_part an_need_part : Option Addr} {sl_need_part : Array (Option Value)} {oc_need_part kV_need_part dc_need_part pm_need_part cd_need_part ct_need_part : Value}
    {f_take_wheel : Addr} {od_take_wheel an_take_wheel : Option Addr} {sl_take_wheel : Array (Option Value)} {oc_take_wheel kV_take_wheel dc_take_wheel pm_take_wheel cd_take_wheel ct_take_wheel : Value}
    {f_pen : Addr} {od_pen an_pen : Option Addr} {sl_pen : Array (Option Value)} {oc_pen kV_pen dc_pen pm_pen cd_pen ct_pen : Value}
    {f_draw : Addr} {od_draw an_draw : Option Addr} {sl_draw : Array (Option Value)} {oc_draw kV_draw dc_draw pm_draw cd_draw ct_draw : Value}
    {f_pick : Addr} {od_pick an_pick : Option Addr} {sl_pick : Array (Option Value)} {oc_pick kV_pick dc_pick pm_pick cd_pick ct_pick : Value}
    {f_heard : Addr} {od_heard an_heard : Option Addr} {sl_heard : Array (Option Value)} {oc_heard kV_heard dc_heard pm_heard cd_heard ct_heard : Value}
    {f_wheel : Addr} {od_wheel an_wheel : Option Addr} {sl_wheel : Array (Option Value)} {oc_wheel kV_wheel dc_wheel pm_wheel cd_wheel ct_wheel : Value}
    {f_of : Addr} {od_of an_of : Option Addr} {sl_of : Array (Option Value)} {oc_of kV_of dc_of pm_of cd_of ct_of : Value}
    {f_due : Addr} {od_due an_due : Option Addr} {sl_due : Array (Option Value)} {oc_due kV_due dc_due pm_due cd_due ct_due : Value}
    {f_bound : Addr} {od_bound an_bound : Option Addr} {sl_bound : Array (Option Value)} {oc_bound kV_bound dc_bound pm_bound cd_bound ct_bound : Value}
    {f_made_right : Addr} {od_made_right an_made_right : Option Addr} {sl_made_right : Array (Option Value)} {oc_made_right kV_made_right dc_made_right pm_made_right ct_made_right : Value}
    {f_is_figures : Addr} {od_is_figures an_is_figures : Option Addr} {sl_is_figures : Array (Option Value)} {oc_is_figures kV_is_figures dc_is_figures pm_is_figures cd_is_figures ct_is_figures : Value}
    {f_wrong : Addr} {od_wrong an_wrong : Option Addr} {sl_wrong : Array (Option Value)} {oc_wrong kV_wrong dc_wrong pm_wrong cd_wrong ct_wrong : Value}
    {f_bent : Addr} {od_bent an_bent : Option Addr} {sl_bent : Array (Option Value)} {oc_bent kV_bent dc_bent pm_bent cd_bent ct_bent : Value}
    {f_read_right : Addr} {od_read_right an_read_right : Option Addr} {sl_read_right : Array (Option Value)} {oc_read_right kV_read_right dc_read_right pm_read_right ct_read_right : Value}
    {f_law : Addr} {od_law an_law : Option Addr} {sl_law : Array (Option Value)} {oc_law kV_law dc_law pm_law cd_law ct_law : Value}
    {f_BadNumber_init : Addr} {od_BadNumber_init an_BadNumber_init : Option Addr} {sl_BadNumber_init : Array (Option Value)} {oc_BadNumber_init kV_BadNumber_init dc_BadNumber_init pm_BadNumber_init cd_BadNumber_init ct_BadNumber_init : Value}
    {f_BadWheel_init : Addr} {od_BadWheel_init an_BadWheel_init : Option Addr} {sl_BadWheel_init : Array (Option Value)} {oc_BadWheel_init kV_BadWheel_init dc_BadWheel_init pm_BadWheel_init cd_BadWheel_init ct_BadWheel_init : Value}
    {f_BadText_init : Addr} {od_BadText_init an_BadText_init : Option Addr} {sl_BadText_init : Array (Option Value)} {oc_BadText_init kV_BadText_init dc_BadText_init pm_BadText_init cd_BadText_init ct_BadText_init : Value}
    {f_Words_init : Addr} {od_Words_init an_Words_init : Option Addr} {sl_Words_init : Array (Option Value)} {oc_Words_init kV_Words_init dc_Words_init pm_Words_init cd_Words_init ct_Words_init : Value}
    {dT_Words_init : Addr} {dC_Words_init : Value} {dD_Words_init : Option Addr} {dv_Words_init : Array Value} {dN_Words_init : Nat} {dS_Words_init : Array (Option Value)}
    {f_Words_upcoming : Addr} {od_Words_upcoming an_Words_upcoming : Option Addr} {sl_Words_upcoming : Array (Option Value)} {oc_Words_upcoming kV_Words_upcoming dc_Words_upcoming pm_Words_upcoming cd_Words_upcoming ct_Words_upcoming : Value}
    {f_Words_take : Addr} {od_Words_take an_Words_take : Option Addr} {sl_Words_take : Array (Option Value)} {oc_Words_take kV_Words_take dc_Words_take pm_Words_take cd_Words_take ct_Words_take : Value}
    {f_Words_take_number : Addr} {od_Words_take_number an_Words_take_number : Option Addr} {sl_Words_take_number : Array (Option Value)} {oc_Words_take_number kV_Words_take_number dc_Words_take_number pm_Words_take_number cd_Words_take_number ct_Words_take_number : Value}
    {f_Words_finish : Addr} {od_Words_finish an_Words_finish : Option Addr} {sl_Words_finish : Array (Option Value)} {oc_Words_finish kV_Words_finish dc_Words_finish pm_Words_finish cd_Words_finish ct_Words_finish : Value}
    {f_Wheel_init : Addr} {od_Wheel_init an_Wheel_init : Option Addr} {sl_Wheel_init : Array (Option Value)} {oc_Wheel_init kV_Wheel_init dc_Wheel_init pm_Wheel_init cd_Wheel_init ct_Wheel_init : Value}
    {f_Wheel_read : Addr} {od_Wheel_read an_Wheel_read : Option Addr} {sl_Wheel_read : Array (Option Value)} {oc_Wheel_read kV_Wheel_read dc_Wheel_read pm_Wheel_read cd_Wheel_read ct_Wheel_read : Value}
    {p_Wheel_read : Addr}
    {f_Wheel_eq : Addr} {od_Wheel_eq an_Wheel_eq : Option Addr} {sl_Wheel_eq : Array (Option Value)} {oc_Wheel_eq kV_Wheel_eq dc_Wheel_eq pm_Wheel_eq cd_Wheel_eq ct_Wheel_eq : Value}
    {f_Wheel_str : Addr} {od_Wheel_str an_Wheel_str : Option Addr} {sl_Wheel_str : Array (Option Value)} {oc_Wheel_str kV_Wheel_str dc_Wheel_str pm_Wheel_str cd_Wheel_str ct_Wheel_str : Value}
    {f_Wheel_mul : Addr} {od_Wheel_mul an_Wheel_mul : Option Addr} {sl_Wheel_mul : Array (Option Value)} {oc_Wheel_mul kV_Wheel_mul dc_Wheel_mul pm_Wheel_mul cd_Wheel_mul ct_Wheel_mul : Value}
    {f_Wheel_wider : Addr} {od_Wheel_wider an_Wheel_wider : Option Addr} {sl_Wheel_wider : Array (Option Value)} {oc_Wheel_wider kV_Wheel_wider dc_Wheel_wider pm_Wheel_wider cd_Wheel_wider ct_Wheel_wider : Value}
    {f_Even_init : Addr} {od_Even_init an_Even_init : Option Addr} {sl_Even_init : Array (Option Value)} {oc_Even_init kV_Even_init dc_Even_init pm_Even_init ct_Even_init : Value}
    {ca_Even_init cc_Even_init : Addr} {e_Even_init g1_Even_init : Value} {dd_Even_init g2_Even_init : Option Addr} {vs_Even_init : Array Value} {sl2_Even_init g3_Even_init : Array (Option Value)} {tf_Even_init : Tok} {cdD_Even_init : ClassData}
    {f_Exact_init : Addr} {od_Exact_init an_Exact_init : Option Addr} {sl_Exact_init : Array (Option Value)} {oc_Exact_init kV_Exact_init dc_Exact_init pm_Exact_init ct_Exact_init : Value}
    {ca_Exact_init cc_Exact_init : Addr} {e_Exact_init g1_Exact_init : Value} {dd_Exact_init g2_Exact_init : Option Addr} {vs_Exact_init : Array Value} {sl2_Exact_init g3_Exact_init : Array (Option Value)} {tf_Exact_init : Tok} {cdD_Exact_init : ClassData}
    {f_Lagging_init : Addr} {od_Lagging_init an_Lagging_init : Option Addr} {sl_Lagging_init : Array (Option Value)} {oc_Lagging_init kV_Lagging_init dc_Lagging_init pm_Lagging_init ct_Lagging_init : Value}
    {ca_Lagging_init cc_Lagging_init : Addr} {e_Lagging_init g1_Lagging_init : Value} {dd_Lagging_init g2_Lagging_init : Option Addr} {vs_Lagging_init : Array Value} {sl2_Lagging_init g3_Lagging_init : Array (Option Value)} {tf_Lagging_init : Tok} {cdD_Lagging_init : ClassData}
    {f_Grid_init : Addr} {od_Grid_init an_Grid_init : Option Addr} {sl_Grid_init : Array (Option Value)} {oc_Grid_init kV_Grid_init dc_Grid_init pm_Grid_init ct_Grid_init : Value}
    {ca_Grid_init cc_Grid_init : Addr} {e_Grid_init g1_Grid_init : Value} {dd_Grid_init g2_Grid_init : Option Addr} {vs_Grid_init : Array Value} {sl2_Grid_init g3_Grid_init : Array (Option Value)} {tf_Grid_init : Tok} {cdD_Grid_init : ClassData}
    {C_ReachError C_Words C_Wheel C_Even C_Exact C_Lagging C_Grid C_BadNumber C_BadWheel C_BadText : Addr} {tM tD : Tok}
    {nmBadNumber qbBadNumber : Str} {NbBadNumber : Addr} {bsBadNumber bmBadNumber : List Value} {snBadNumber : List Str} {suBadNumber : List Value} {abBadNumber : Bool} {coBadNumber : Option Bool} {ddBadNumber : Option Addr} {m0BadNumber m1BadNumber m2BadNumber m3BadNumber m5BadNumber : Option Value}
    {nmBadWheel qbBadWheel : Str} {NbBadWheel : Addr} {bsBadWheel bmBadWheel : List Value} {snBadWheel : List Str} {suBadWheel : List Value} {abBadWheel : Bool} {coBadWheel : Option Bool} {ddBadWheel : Option Addr} {m0BadWheel m1BadWheel m2BadWheel m3BadWheel m5BadWheel : Option Value}
    {nmBadText qbBadText : Str} {NbBadText : Addr} {bsBadText bmBadText : List Value} {snBadText : List Str} {suBadText : List Value} {abBadText : Bool} {coBadText : Option Bool} {ddBadText : Option Addr} {m0BadText m1BadText m2BadText m3BadText m5BadText : Option Value}
    {cc_made_right pp_made_right : Addr} {e_made_right : Value} {dd_made_right : Option Addr} {vs_made_right : Array Value} {sl2_made_right : Array (Option Value)}
    {cc_read_right pp_read_right : Addr} {e_read_right : Value} {dd_read_right : Option Addr} {vs_read_right : Array Value} {sl2_read_right : Array (Option Value)}
    (a_is_whole : PySem.W.nsIn K mainGlobals "is_whole" = some (some (.ref f_is_whole)))
    (l_is_whole : K.lookup f_is_whole = some ⟨oc_is_whole, od_is_whole, .func (PySem.W.fnOf "is_whole" "is_whole" (defArgs s_is_whole) (defBody s_is_whole) (defScope s_is_whole) .none kV_is_whole dc_is_whole pm_is_whole an_is_whole cd_is_whole ct_is_whole), sl_is_whole⟩)
    (c_is_whole : PySem.W.codeIn K cd_is_whole "is_whole" = true)
    (k_is_whole : PySem.W.keepIn K (.ref f_is_whole) = true)
    (a_is_between : PySem.W.nsIn K mainGlobals "is_between" = some (some (.ref f_is_between)))
    (l_is_between : K.lookup f_is_between = some ⟨oc_is_between, od_is_between, .func (PySem.W.fnOf "is_between" "is_between" (defArgs s_is_between) (defBody s_is_between) (defScope s_is_between) .none kV_is_between dc_is_between pm_is_between an_is_between cd_is_between ct_is_between), sl_is_between⟩)
    (c_is_between : PySem.W.codeIn K cd_is_between "is_between" = true)
    (k_is_between : PySem.W.keepIn K (.ref f_is_between) = true)
    (a_number_in : PySem.W.nsIn K mainGlobals "number_in" = some (some (.ref f_number_in)))
    (l_number_in : K.lookup f_number_in = some ⟨oc_number_in, od_number_in, .func (PySem.W.fnOf "number_in" "number_in" (defArgs s_number_in) (defBody s_number_in) (defScope s_number_in) .none kV_number_in dc_number_in pm_number_in an_number_in cd_number_in ct_number_in), sl_number_in⟩)
    (c_number_in : PySem.W.codeIn K cd_number_in "number_in" = true)
    (k_number_in : PySem.W.keepIn K (.ref f_number_in) = true)
    (a_need_part : PySem.W.nsIn K mainGlobals "need_part" = some (some (.ref f_need_part)))
    (l_need_part : K.lookup f_need_part = some ⟨oc_need_part, od_need_part, .func (PySem.W.fnOf "need_part" "need_part" (defArgs s_need_part) (defBody s_need_part) (defScope s_need_part) .none kV_need_part dc_need_part pm_need_part an_need_part cd_need_part ct_need_part), sl_need_part⟩)
    (c_need_part : PySem.W.codeIn K cd_need_part "need_part" = true)
    (k_need_part : PySem.W.keepIn K (.ref f_need_part) = true)
    (a_take_wheel : PySem.W.nsIn K mainGlobals "take_wheel" = some (some (.ref f_take_wheel)))
    (l_take_wheel : K.lookup f_take_wheel = some ⟨oc_take_wheel, od_take_wheel, .func (PySem.W.fnOf "take_wheel" "take_wheel" (defArgs s_take_wheel) (defBody s_take_wheel) (defScope s_take_wheel) .none kV_take_wheel dc_take_wheel pm_take_wheel an_take_wheel cd_take_wheel ct_take_wheel), sl_take_wheel⟩)
    (c_take_wheel : PySem.W.codeIn K cd_take_wheel "take_wheel" = true)
    (k_take_wheel : PySem.W.keepIn K (.ref f_take_wheel) = true)
    (a_pen : PySem.W.nsIn K mainGlobals "_law_pen" = some (some (.ref f_pen)))
    (l_pen : K.lookup f_pen = some ⟨oc_pen, od_pen, .func (PySem.W.fnOf "_law_pen" "_law_pen" (defArgs s_pen) (defBody s_pen) (defScope s_pen) .none kV_pen dc_pen pm_pen an_pen cd_pen ct_pen), sl_pen⟩)
    (c_pen : PySem.W.codeIn K cd_pen "_law_pen" = true)
    (k_pen : PySem.W.keepIn K (.ref f_pen) = true)
    (a_draw : PySem.W.nsIn K mainGlobals "_law_draw" = some (some (.ref f_draw)))
    (l_draw : K.lookup f_draw = some ⟨oc_draw, od_draw, .func (PySem.W.fnOf "_law_draw" "_law_draw" (defArgs s_draw) (defBody s_draw) (defScope s_draw) .none kV_draw dc_draw pm_draw an_draw cd_draw ct_draw), sl_draw⟩)
    (c_draw : PySem.W.codeIn K cd_draw "_law_draw" = true)
    (k_draw : PySem.W.keepIn K (.ref f_draw) = true)
    (a_pick : PySem.W.nsIn K mainGlobals "_law_pick" = some (some (.ref f_pick)))
    (l_pick : K.lookup f_pick = some ⟨oc_pick, od_pick, .func (PySem.W.fnOf "_law_pick" "_law_pick" (defArgs s_pick) (defBody s_pick) (defScope s_pick) .none kV_pick dc_pick pm_pick an_pick cd_pick ct_pick), sl_pick⟩)
    (c_pick : PySem.W.codeIn K cd_pick "_law_pick" = true)
    (k_pick : PySem.W.keepIn K (.ref f_pick) = true)
    (a_heard : PySem.W.nsIn K mainGlobals "_law_heard" = some (some (.ref f_heard)))
    (l_heard : K.lookup f_heard = some ⟨oc_heard, od_heard, .func (PySem.W.fnOf "_law_heard" "_law_heard" (defArgs s_heard) (defBody s_heard) (defScope s_heard) .none kV_heard dc_heard pm_heard an_heard cd_heard ct_heard), sl_heard⟩)
    (c_heard : PySem.W.codeIn K cd_heard "_law_heard" = true)
    (k_heard : PySem.W.keepIn K (.ref f_heard) = true)
    (a_wheel : PySem.W.nsIn K mainGlobals "_law_wheel" = some (some (.ref f_wheel)))
    (l_wheel : K.lookup f_wheel = some ⟨oc_wheel, od_wheel, .func (PySem.W.fnOf "_law_wheel" "_law_wheel" (defArgs s_wheel) (defBody s_wheel) (defScope s_wheel) .none kV_wheel dc_wheel pm_wheel an_wheel cd_wheel ct_wheel), sl_wheel⟩)
    (c_wheel : PySem.W.codeIn K cd_wheel "_law_wheel" = true)
    (k_wheel : PySem.W.keepIn K (.ref f_wheel) = true)
    (a_of : PySem.W.nsIn K mainGlobals "_law_of" = some (some (.ref f_of)))
    (l_of : K.lookup f_of = some ⟨oc_of, od_of, .func (PySem.W.fnOf "_law_of" "_law_of" (defArgs s_of) (defBody s_of) (defScope s_of) .none kV_of dc_of pm_of an_of cd_of ct_of), sl_of⟩)
    (c_of : PySem.W.codeIn K cd_of "_law_of" = true)
    (k_of : PySem.W.keepIn K (.ref f_of) = true)
    (a_due : PySem.W.nsIn K mainGlobals "_law_due" = some (some (.ref f_due)))
    (l_due : K.lookup f_due = some ⟨oc_due, od_due, .func (PySem.W.fnOf "_law_due" "_law_due" (defArgs s_due) (defBody s_due) (defScope s_due) .none kV_due dc_due pm_due an_due cd_due ct_due), sl_due⟩)
    (c_due : PySem.W.codeIn K cd_due "_law_due" = true)
    (k_due : PySem.W.keepIn K (.ref f_due) = true)
    (a_bound : PySem.W.nsIn K mainGlobals "_law_bound" = some (some (.ref f_bound)))
    (l_bound : K.lookup f_bound = some ⟨oc_bound, od_bound, .func (PySem.W.fnOf "_law_bound" "_law_bound" (defArgs s_bound) (defBody s_bound) (defScope s_bound) .none kV_bound dc_bound pm_bound an_bound cd_bound ct_bound), sl_bound⟩)
    (c_bound : PySem.W.codeIn K cd_bound "_law_bound" = true)
    (k_bound : PySem.W.keepIn K (.ref f_bound) = true)
    (a_made_right : PySem.W.nsIn K mainGlobals "_law_made_right" = some (some (.ref f_made_right)))
    (l_made_right : K.lookup f_made_right = some ⟨oc_made_right, od_made_right, .func (PySem.W.fnOf "_law_made_right" "_law_made_right" (defArgs s_made_right) (defBody s_made_right) (defScope s_made_right) .none kV_made_right dc_made_right pm_made_right an_made_right (.ref cc_made_right) ct_made_right), sl_made_right⟩)
    (c_made_right : PySem.W.codeIn K (.ref cc_made_right) "_law_made_right" = true)
    (k_made_right : PySem.W.keepIn K (.ref f_made_right) = true)
    (a_is_figures : PySem.W.nsIn K mainGlobals "_law_is_figures" = some (some (.ref f_is_figures)))
    (l_is_figures : K.lookup f_is_figures = some ⟨oc_is_figures, od_is_figures, .func (PySem.W.fnOf "_law_is_figures" "_law_is_figures" (defArgs s_is_figures) (defBody s_is_figures) (defScope s_is_figures) .none kV_is_figures dc_is_figures pm_is_figures an_is_figures cd_is_figures ct_is_figures), sl_is_figures⟩)
    (c_is_figures : PySem.W.codeIn K cd_is_figures "_law_is_figures" = true)
    (k_is_figures : PySem.W.keepIn K (.ref f_is_figures) = true)
    (a_wrong : PySem.W.nsIn K mainGlobals "_law_wrong" = some (some (.ref f_wrong)))
    (l_wrong : K.lookup f_wrong = some ⟨oc_wrong, od_wrong, .func (PySem.W.fnOf "_law_wrong" "_law_wrong" (defArgs s_wrong) (defBody s_wrong) (defScope s_wrong) .none kV_wrong dc_wrong pm_wrong an_wrong cd_wrong ct_wrong), sl_wrong⟩)
    (c_wrong : PySem.W.codeIn K cd_wrong "_law_wrong" = true)
    (k_wrong : PySem.W.keepIn K (.ref f_wrong) = true)
    (a_bent : PySem.W.nsIn K mainGlobals "_law_bent" = some (some (.ref f_bent)))
    (l_bent : K.lookup f_bent = some ⟨oc_bent, od_bent, .func (PySem.W.fnOf "_law_bent" "_law_bent" (defArgs s_bent) (defBody s_bent) (defScope s_bent) .none kV_bent dc_bent pm_bent an_bent cd_bent ct_bent), sl_bent⟩)
    (c_bent : PySem.W.codeIn K cd_bent "_law_bent" = true)
    (k_bent : PySem.W.keepIn K (.ref f_bent) = true)
    (a_read_right : PySem.W.nsIn K mainGlobals "_law_read_right" = some (some (.ref f_read_right)))
    (l_read_right : K.lookup f_read_right = some ⟨oc_read_right, od_read_right, .func (PySem.W.fnOf "_law_read_right" "_law_read_right" (defArgs s_read_right) (defBody s_read_right) (defScope s_read_right) .none kV_read_right dc_read_right pm_read_right an_read_right (.ref cc_read_right) ct_read_right), sl_read_right⟩)
    (c_read_right : PySem.W.codeIn K (.ref cc_read_right) "_law_read_right" = true)
    (k_read_right : PySem.W.keepIn K (.ref f_read_right) = true)
    (a_law : PySem.W.nsIn K mainGlobals "law" = some (some (.ref f_law)))
    (l_law : K.lookup f_law = some ⟨oc_law, od_law, .func (PySem.W.fnOf "law" "law" (defArgs s_law) (defBody s_law) (defScope s_law) .none kV_law dc_law pm_law an_law cd_law ct_law), sl_law⟩)
    (c_law : PySem.W.codeIn K cd_law "law" = true)
    (k_law : PySem.W.keepIn K (.ref f_law) = true)
    (a_BadNumber_init : PySem.W.findIn K (.ref C_BadNumber) "__init__" = some (some (.ref f_BadNumber_init)))
    (l_BadNumber_init : K.lookup f_BadNumber_init = some ⟨oc_BadNumber_init, od_BadNumber_init, .func (PySem.W.fnOf "__init__" "BadNumber.__init__" (defArgs s_BadNumber_init) (defBody s_BadNumber_init) (defScope s_BadNumber_init) .none kV_BadNumber_init dc_BadNumber_init pm_BadNumber_init an_BadNumber_init cd_BadNumber_init ct_BadNumber_init), sl_BadNumber_init⟩)
    (c_BadNumber_init : PySem.W.codeIn K cd_BadNumber_init "BadNumber.__init__" = true)
    (k_BadNumber_init : PySem.W.keepIn K (.ref f_BadNumber_init) = true)
    (a_BadWheel_init : PySem.W.findIn K (.ref C_BadWheel) "__init__" = some (some (.ref f_BadWheel_init)))
    (l_BadWheel_init : K.lookup f_BadWheel_init = some ⟨oc_BadWheel_init, od_BadWheel_init, .func (PySem.W.fnOf "__init__" "BadWheel.__init__" (defArgs s_BadWheel_init) (defBody s_BadWheel_init) (defScope s_BadWheel_init) .none kV_BadWheel_init dc_BadWheel_init pm_BadWheel_init an_BadWheel_init cd_BadWheel_init ct_BadWheel_init), sl_BadWheel_init⟩)
    (c_BadWheel_init : PySem.W.codeIn K cd_BadWheel_init "BadWheel.__init__" = true)
    (k_BadWheel_init : PySem.W.keepIn K (.ref f_BadWheel_init) = true)
    (a_BadText_init : PySem.W.findIn K (.ref C_BadText) "__init__" = some (some (.ref f_BadText_init)))
    (l_BadText_init : K.lookup f_BadText_init = some ⟨oc_BadText_init, od_BadText_init, .func (PySem.W.fnOf "__init__" "BadText.__init__" (defArgs s_BadText_init) (defBody s_BadText_init) (defScope s_BadText_init) .none kV_BadText_init dc_BadText_init pm_BadText_init an_BadText_init cd_BadText_init ct_BadText_init), sl_BadText_init⟩)
    (c_BadText_init : PySem.W.codeIn K cd_BadText_init "BadText.__init__" = true)
    (k_BadText_init : PySem.W.keepIn K (.ref f_BadText_init) = true)
    (a_Words_init : PySem.W.findIn K (.ref C_Words) "__init__" = some (some (.ref f_Words_init)))
    (l_Words_init : K.lookup f_Words_init = some ⟨oc_Words_init, od_Words_init, .func (PySem.W.fnOf "__init__" "Words.__init__" (defArgs s_Words_init) (defBody s_Words_init) (defScope s_Words_init) (.ref dT_Words_init) kV_Words_init dc_Words_init pm_Words_init an_Words_init cd_Words_init ct_Words_init), sl_Words_init⟩)
    (d_Words_init : K.lookup dT_Words_init = some ⟨dC_Words_init, dD_Words_init, .seq dv_Words_init dN_Words_init, dS_Words_init⟩)
    (dv1_Words_init : ∃ its, dv_Words_init = its.toArray ∧ Vals ([V.int 0] : List V) its)
    (c_Words_init : PySem.W.codeIn K cd_Words_init "Words.__init__" = true)
    (k_Words_init : PySem.W.keepIn K (.ref f_Words_init) = true)
    (a_Words_upcoming : PySem.W.findIn K (.ref C_Words) "upcoming" = some (some (.ref f_Words_upcoming)))
    (l_Words_upcoming : K.lookup f_Words_upcoming = some ⟨oc_Words_upcoming, od_Words_upcoming, .func (PySem.W.fnOf "upcoming" "Words.upcoming" (defArgs s_Words_upcoming) (defBody s_Words_upcoming) (defScope s_Words_upcoming) .none kV_Words_upcoming dc_Words_upcoming pm_Words_upcoming an_Words_upcoming cd_Words_upcoming ct_Words_upcoming), sl_Words_upcoming⟩)
    (c_Words_upcoming : PySem.W.codeIn K cd_Words_upcoming "Words.upcoming" = true)
    (k_Words_upcoming : PySem.W.keepIn K (.ref f_Words_upcoming) = true)
    (a_Words_take : PySem.W.findIn K (.ref C_Words) "take" = some (some (.ref f_Words_take)))
    (l_Words_take : K.lookup f_Words_take = some ⟨oc_Words_take, od_Words_take, .func (PySem.W.fnOf "take" "Words.take" (defArgs s_Words_take) (defBody s_Words_take) (defScope s_Words_take) .none kV_Words_take dc_Words_take pm_Words_take an_Words_take cd_Words_take ct_Words_take), sl_Words_take⟩)
    (c_Words_take : PySem.W.codeIn K cd_Words_take "Words.take" = true)
    (k_Words_take : PySem.W.keepIn K (.ref f_Words_take) = true)
    (a_Words_take_number : PySem.W.findIn K (.ref C_Words) "take_number" = some (some (.ref f_Words_take_number)))
    (l_Words_take_number : K.lookup f_Words_take_number = some ⟨oc_Words_take_number, od_Words_take_number, .func (PySem.W.fnOf "take_number" "Words.take_number" (defArgs s_Words_take_number) (defBody s_Words_take_number) (defScope s_Words_take_number) .none kV_Words_take_number dc_Words_take_number pm_Words_take_number an_Words_take_number cd_Words_take_number ct_Words_take_number), sl_Words_take_number⟩)
    (c_Words_take_number : PySem.W.codeIn K cd_Words_take_number "Words.take_number" = true)
    (k_Words_take_number : PySem.W.keepIn K (.ref f_Words_take_number) = true)
    (a_Words_finish : PySem.W.findIn K (.ref C_Words) "finish" = some (some (.ref f_Words_finish)))
    (l_Words_finish : K.lookup f_Words_finish = some ⟨oc_Words_finish, od_Words_finish, .func (PySem.W.fnOf "finish" "Words.finish" (defArgs s_Words_finish) (defBody s_Words_finish) (defScope s_Words_finish) .none kV_Words_finish dc_Words_finish pm_Words_finish an_Words_finish cd_Words_finish ct_Words_finish), sl_Words_finish⟩)
    (c_Words_finish : PySem.W.codeIn K cd_Words_finish "Words.finish" = true)
    (k_Words_finish : PySem.W.keepIn K (.ref f_Words_finish) = true)
    (a_Wheel_init : PySem.W.findIn K (.ref C_Wheel) "__init__" = some (some (.ref f_Wheel_init)))
    (l_Wheel_init : K.lookup f_Wheel_init = some ⟨oc_Wheel_init, od_Wheel_init, .func (PySem.W.fnOf "__init__" "Wheel.__init__" (defArgs s_Wheel_init) (defBody s_Wheel_init) (defScope s_Wheel_init) .none kV_Wheel_init dc_Wheel_init pm_Wheel_init an_Wheel_init cd_Wheel_init ct_Wheel_init), sl_Wheel_init⟩)
    (c_Wheel_init : PySem.W.codeIn K cd_Wheel_init "Wheel.__init__" = true)
    (k_Wheel_init : PySem.W.keepIn K (.ref f_Wheel_init) = true)
    (a_Wheel_read : CStat K C_Wheel (.type "type") "read" p_Wheel_read f_Wheel_read)
    (l_Wheel_read : K.lookup f_Wheel_read = some ⟨oc_Wheel_read, od_Wheel_read, .func (PySem.W.fnOf "read" "Wheel.read" (defArgs s_Wheel_read) (defBody s_Wheel_read) (defScope s_Wheel_read) .none kV_Wheel_read dc_Wheel_read pm_Wheel_read an_Wheel_read cd_Wheel_read ct_Wheel_read), sl_Wheel_read⟩)
    (c_Wheel_read : PySem.W.codeIn K cd_Wheel_read "Wheel.read" = true)
    (k_Wheel_read : PySem.W.keepIn K (.ref f_Wheel_read) = true)
    (a_Wheel_eq : PySem.W.findIn K (.ref C_Wheel) "__eq__" = some (some (.ref f_Wheel_eq)))
    (l_Wheel_eq : K.lookup f_Wheel_eq = some ⟨oc_Wheel_eq, od_Wheel_eq, .func (PySem.W.fnOf "__eq__" "Wheel.__eq__" (defArgs s_Wheel_eq) (defBody s_Wheel_eq) (defScope s_Wheel_eq) .none kV_Wheel_eq dc_Wheel_eq pm_Wheel_eq an_Wheel_eq cd_Wheel_eq ct_Wheel_eq), sl_Wheel_eq⟩)
    (c_Wheel_eq : PySem.W.codeIn K cd_Wheel_eq "Wheel.__eq__" = true)
    (k_Wheel_eq : PySem.W.keepIn K (.ref f_Wheel_eq) = true)
    (a_Wheel_str : PySem.W.findIn K (.ref C_Wheel) "__str__" = some (some (.ref f_Wheel_str)))
    (l_Wheel_str : K.lookup f_Wheel_str = some ⟨oc_Wheel_str, od_Wheel_str, .func (PySem.W.fnOf "__str__" "Wheel.__str__" (defArgs s_Wheel_str) (defBody s_Wheel_str) (defScope s_Wheel_str) .none kV_Wheel_str dc_Wheel_str pm_Wheel_str an_Wheel_str cd_Wheel_str ct_Wheel_str), sl_Wheel_str⟩)
    (c_Wheel_str : PySem.W.codeIn K cd_Wheel_str "Wheel.__str__" = true)
    (k_Wheel_str : PySem.W.keepIn K (.ref f_Wheel_str) = true)
    (a_Wheel_mul : PySem.W.findIn K (.ref C_Wheel) "__mul__" = some (some (.ref f_Wheel_mul)))
    (l_Wheel_mul : K.lookup f_Wheel_mul = some ⟨oc_Wheel_mul, od_Wheel_mul, .func (PySem.W.fnOf "__mul__" "Wheel.__mul__" (defArgs s_Wheel_mul) (defBody s_Wheel_mul) (defScope s_Wheel_mul) .none kV_Wheel_mul dc_Wheel_mul pm_Wheel_mul an_Wheel_mul cd_Wheel_mul ct_Wheel_mul), sl_Wheel_mul⟩)
    (c_Wheel_mul : PySem.W.codeIn K cd_Wheel_mul "Wheel.__mul__" = true)
    (k_Wheel_mul : PySem.W.keepIn K (.ref f_Wheel_mul) = true)
    (a_Wheel_wider : PySem.W.findIn K (.ref C_Wheel) "wider" = some (some (.ref f_Wheel_wider)))
    (l_Wheel_wider : K.lookup f_Wheel_wider = some ⟨oc_Wheel_wider, od_Wheel_wider, .func (PySem.W.fnOf "wider" "Wheel.wider" (defArgs s_Wheel_wider) (defBody s_Wheel_wider) (defScope s_Wheel_wider) .none kV_Wheel_wider dc_Wheel_wider pm_Wheel_wider an_Wheel_wider cd_Wheel_wider ct_Wheel_wider), sl_Wheel_wider⟩)
    (c_Wheel_wider : PySem.W.codeIn K cd_Wheel_wider "Wheel.wider" = true)
    (k_Wheel_wider : PySem.W.keepIn K (.ref f_Wheel_wider) = true)
    (a_Even_init : PySem.W.findIn K (.ref C_Even) "__init__" = some (some (.ref f_Even_init)))
    (l_Even_init : K.lookup f_Even_init = some ⟨oc_Even_init, od_Even_init, .func (PySem.W.ksFn "__init__" "Even.__init__" (defArgs s_Even_init) (defBody s_Even_init) (defScope s_Even_init) .none kV_Even_init dc_Even_init pm_Even_init an_Even_init (.ref ca_Even_init) ct_Even_init cc_Even_init), sl_Even_init⟩)
    (c_Even_init : PySem.W.codeIn K (.ref ca_Even_init) "Even.__init__" = true)
    (k_Even_init : PySem.W.keepIn K (.ref f_Even_init) = true)
    (t_Even_init : K.lookup ca_Even_init = some ⟨e_Even_init, dd_Even_init, .fields vs_Even_init, sl2_Even_init⟩)
    (p_Even_init : vs_Even_init[2]? = some (.str lawFile tf_Even_init))
    (y_Even_init : K.lookup cc_Even_init = some ⟨g1_Even_init, g2_Even_init, .cell (some (.ref C_Even)), g3_Even_init⟩)
    (w_Even_init : PySem.W.clsIn K C_Even = some cdD_Even_init)
    (a_Exact_init : PySem.W.findIn K (.ref C_Exact) "__init__" = some (some (.ref f_Exact_init)))
    (l_Exact_init : K.lookup f_Exact_init = some ⟨oc_Exact_init, od_Exact_init, .func (PySem.W.ksFn "__init__" "Exact.__init__" (defArgs s_Exact_init) (defBody s_Exact_init) (defScope s_Exact_init) .none kV_Exact_init dc_Exact_init pm_Exact_init an_Exact_init (.ref ca_Exact_init) ct_Exact_init cc_Exact_init), sl_Exact_init⟩)
    (c_Exact_init : PySem.W.codeIn K (.ref ca_Exact_init) "Exact.__init__" = true)
    (k_Exact_init : PySem.W.keepIn K (.ref f_Exact_init) = true)
    (t_Exact_init : K.lookup ca_Exact_init = some ⟨e_Exact_init, dd_Exact_init, .fields vs_Exact_init, sl2_Exact_init⟩)
    (p_Exact_init : vs_Exact_init[2]? = some (.str lawFile tf_Exact_init))
    (y_Exact_init : K.lookup cc_Exact_init = some ⟨g1_Exact_init, g2_Exact_init, .cell (some (.ref C_Exact)), g3_Exact_init⟩)
    (w_Exact_init : PySem.W.clsIn K C_Exact = some cdD_Exact_init)
    (a_Lagging_init : PySem.W.findIn K (.ref C_Lagging) "__init__" = some (some (.ref f_Lagging_init)))
    (l_Lagging_init : K.lookup f_Lagging_init = some ⟨oc_Lagging_init, od_Lagging_init, .func (PySem.W.ksFn "__init__" "Lagging.__init__" (defArgs s_Lagging_init) (defBody s_Lagging_init) (defScope s_Lagging_init) .none kV_Lagging_init dc_Lagging_init pm_Lagging_init an_Lagging_init (.ref ca_Lagging_init) ct_Lagging_init cc_Lagging_init), sl_Lagging_init⟩)
    (c_Lagging_init : PySem.W.codeIn K (.ref ca_Lagging_init) "Lagging.__init__" = true)
    (k_Lagging_init : PySem.W.keepIn K (.ref f_Lagging_init) = true)
    (t_Lagging_init : K.lookup ca_Lagging_init = some ⟨e_Lagging_init, dd_Lagging_init, .fields vs_Lagging_init, sl2_Lagging_init⟩)
    (p_Lagging_init : vs_Lagging_init[2]? = some (.str lawFile tf_Lagging_init))
    (y_Lagging_init : K.lookup cc_Lagging_init = some ⟨g1_Lagging_init, g2_Lagging_init, .cell (some (.ref C_Lagging)), g3_Lagging_init⟩)
    (w_Lagging_init : PySem.W.clsIn K C_Lagging = some cdD_Lagging_init)
    (a_Grid_init : PySem.W.findIn K (.ref C_Grid) "__init__" = some (some (.ref f_Grid_init)))
    (l_Grid_init : K.lookup f_Grid_init = some ⟨oc_Grid_init, od_Grid_init, .func (PySem.W.ksFn "__init__" "Grid.__init__" (defArgs s_Grid_init) (defBody s_Grid_init) (defScope s_Grid_init) .none kV_Grid_init dc_Grid_init pm_Grid_init an_Grid_init (.ref ca_Grid_init) ct_Grid_init cc_Grid_init), sl_Grid_init⟩)
    (c_Grid_init : PySem.W.codeIn K (.ref ca_Grid_init) "Grid.__init__" = true)
    (k_Grid_init : PySem.W.keepIn K (.ref f_Grid_init) = true)
    (t_Grid_init : K.lookup ca_Grid_init = some ⟨e_Grid_init, dd_Grid_init, .fields vs_Grid_init, sl2_Grid_init⟩)
    (p_Grid_init : vs_Grid_init[2]? = some (.str lawFile tf_Grid_init))
    (y_Grid_init : K.lookup cc_Grid_init = some ⟨g1_Grid_init, g2_Grid_init, .cell (some (.ref C_Grid)), g3_Grid_init⟩)
    (w_Grid_init : PySem.W.clsIn K C_Grid = some cdD_Grid_init)
    (z_ValueError : PySem.W.nsIn K mainGlobals "ValueError" = some none)
    (z_abs : PySem.W.nsIn K mainGlobals "abs" = some none)
    (z_bool : PySem.W.nsIn K mainGlobals "bool" = some none)
    (z_enumerate : PySem.W.nsIn K mainGlobals "enumerate" = some none)
    (z_int : PySem.W.nsIn K mainGlobals "int" = some none)
    (z_isinstance : PySem.W.nsIn K mainGlobals "isinstance" = some none)
    (z_len : PySem.W.nsIn K mainGlobals "len" = some none)
    (z_list : PySem.W.nsIn K mainGlobals "list" = some none)
    (z_property : PySem.W.nsIn K mainGlobals "property" = some none)
    (z_range : PySem.W.nsIn K mainGlobals "range" = some none)
    (z_repr : PySem.W.nsIn K mainGlobals "repr" = some none)
    (z_staticmethod : PySem.W.nsIn K mainGlobals "staticmethod" = some none)
    (z_str : PySem.W.nsIn K mainGlobals "str" = some none)
    (z_super : PySem.W.nsIn K mainGlobals "super" = some none)
    (t_made_right : K.lookup cc_made_right = some ⟨e_made_right, dd_made_right, .fields vs_made_right, sl2_made_right⟩)
    (p_made_right : vs_made_right[11]? = some (.ref pp_made_right))
    (q_made_right : K.lookup pp_made_right = Option.none)
    (t_read_right : K.lookup cc_read_right = some ⟨e_read_right, dd_read_right, .fields vs_read_right, sl2_read_right⟩)
    (p_read_right : vs_read_right[11]? = some (.ref pp_read_right))
    (q_read_right : K.lookup pp_read_right = Option.none)
    (x_R : PySem.W.nsIn K mainGlobals "ReachError" = some (some (.ref C_ReachError)))
    (x_MP : PySem.W.nsIn K mainGlobals "MOST_PERIOD" = some (some (.int 1000000000000 tM)))
    (x_MD : PySem.W.nsIn K mainGlobals "MOST_DIGITS" = some (some (.int 120 tD)))
    (x_Wheel : PySem.W.nsIn K mainGlobals "Wheel" = some (some (.ref C_Wheel)))
    (x_Even : PySem.W.nsIn K mainGlobals "Even" = some (some (.ref C_Even)))
    (x_Exact : PySem.W.nsIn K mainGlobals "Exact" = some (some (.ref C_Exact)))
    (x_Lagging : PySem.W.nsIn K mainGlobals "Lagging" = some (some (.ref C_Lagging)))
    (x_Grid : PySem.W.nsIn K mainGlobals "Grid" = some (some (.ref C_Grid)))
    (x_Words : PySem.W.nsIn K mainGlobals "Words" = some (some (.ref C_Words)))
    (x_BadNumber : PySem.W.nsIn K mainGlobals "BadNumber" = some (some (.ref C_BadNumber)))
    (x_BadWheel : PySem.W.nsIn K mainGlobals "BadWheel" = some (some (.ref C_BadWheel)))
    (x_BadText : PySem.W.nsIn K mainGlobals "BadText" = some (some (.ref C_BadText)))
    (x_pf : ((l.prog.main.file : Str) == lawFile) = true)
    (x_pt : (l.prog.main.scope.names.lookup ("super" : Str)).isSome = false)
    (x_any : PySem.W.nsIn K PySem.cStatics "thirdparty.any" = some none)
    (x_sT : PySem.W.typeIn K (.ref f_Wheel_init) = some (.type "function"))
    (x_sF : PySem.W.fnIn K f_Wheel_init = true)
    (x_hn : PySem.W.specialIn K (.builtin "object.__class__") "__get__" = some (some (.builtin "getset_descriptor.__get__")))
    (x_ht : PySem.W.takesIn K (.builtin "object.__class__") = some true)
    (x_Rx : PySem.W.subIn K (.ref C_ReachError) (.type "BaseException") = some true)
    (x_Rh : PySem.W.hasDictIn K C_ReachError = true)
    (x_Rt : PySem.W.typeIn K (.ref C_ReachError) = some (.type "type"))
    (zBadNumber_L : K.lookup C_BadNumber = some (excClassObj nmBadNumber qbBadNumber C_BadNumber NbBadNumber bsBadNumber bmBadNumber true snBadNumber suBadNumber abBadNumber coBadNumber ddBadNumber m0BadNumber m1BadNumber m2BadNumber m3BadNumber m5BadNumber "ValueError.__new__"))
    (zBadNumber_b : PySem.HandSPX.refsVE bmBadNumber = true)
    (zBadNumber_sa : PySem.W.findIn K (.ref C_BadNumber) "__setattr__" = some (some (.builtin "object.__setattr__")))
    (zBadNumber_ex : PySem.W.subIn K (.ref C_BadNumber) (.type "BaseException") = some true)
    (zBadNumber_ty : PySem.W.typeIn K (.ref C_BadNumber) = some (.type "type"))
    (zBadNumber_k : PySem.W.keepIn K (.ref C_BadNumber) = true)
    (zBadNumber_tI : PySem.W.typeIn K (.ref f_BadNumber_init) = some (.type "function"))
    (zBadNumber_cl : PySem.W.isClsIn K C_BadNumber = true)
    (zBadNumber_ga : PySem.W.findIn K (.ref C_BadNumber) "__getattribute__" = some (some (.builtin "BaseException.__getattribute__")))
    (zBadNumber_gg : PySem.W.findIn K (.ref C_BadNumber) "__getattr__" = some Option.none)
    (zBadNumber_hd : PySem.W.hasDictIn K C_BadNumber = true)
    (zBadNumber_ha : PySem.W.findIn K (.ref C_BadNumber) "__class__" = some (some (.builtin "object.__class__")))
    (zBadNumber_hm : PySem.W.mroIn K C_BadNumber (.type "object") = some true)
    (zBadNumber_RC : PySem.W.subIn K (.ref C_BadNumber) (.ref C_ReachError) = some true)
    (zBadNumber_kV : PySem.W.kitOne K (.ref C_BadNumber) (.type "ValueError") = some true)
    (zBadNumber_no0 : PySem.W.findIn K (.ref C_BadNumber) "value" = some Option.none)
    (zBadNumber_kBadNumber : PySem.W.kitOne K (.ref C_BadNumber) (.ref C_BadNumber) = some true)
    (zBadNumber_kBadWheel : PySem.W.kitOne K (.ref C_BadNumber) (.ref C_BadWheel) = some false)
    (zBadNumber_kBadText : PySem.W.kitOne K (.ref C_BadNumber) (.ref C_BadText) = some false)
    (zBadWheel_L : K.lookup C_BadWheel = some (excClassObj nmBadWheel qbBadWheel C_BadWheel NbBadWheel bsBadWheel bmBadWheel true snBadWheel suBadWheel abBadWheel coBadWheel ddBadWheel m0BadWheel m1BadWheel m2BadWheel m3BadWheel m5BadWheel "ValueError.__new__"))
    (zBadWheel_b : PySem.HandSPX.refsVE bmBadWheel = true)
    (zBadWheel_sa : PySem.W.findIn K (.ref C_BadWheel) "__setattr__" = some (some (.builtin "object.__setattr__")))
    (zBadWheel_ex : PySem.W.subIn K (.ref C_BadWheel) (.type "BaseException") = some true)
    (zBadWheel_ty : PySem.W.typeIn K (.ref C_BadWheel) = some (.type "type"))
    (zBadWheel_k : PySem.W.keepIn K (.ref C_BadWheel) = true)
    (zBadWheel_tI : PySem.W.typeIn K (.ref f_BadWheel_init) = some (.type "function"))
    (zBadWheel_cl : PySem.W.isClsIn K C_BadWheel = true)
    (zBadWheel_ga : PySem.W.findIn K (.ref C_BadWheel) "__getattribute__" = some (some (.builtin "BaseException.__getattribute__")))
    (zBadWheel_gg : PySem.W.findIn K (.ref C_BadWheel) "__getattr__" = some Option.none)
    (zBadWheel_hd : PySem.W.hasDictIn K C_BadWheel = true)
    (zBadWheel_ha : PySem.W.findIn K (.ref C_BadWheel) "__class__" = some (some (.builtin "object.__class__")))
    (zBadWheel_hm : PySem.W.mroIn K C_BadWheel (.type "object") = some true)
    (zBadWheel_RC : PySem.W.subIn K (.ref C_BadWheel) (.ref C_ReachError) = some true)
    (zBadWheel_kV : PySem.W.kitOne K (.ref C_BadWheel) (.type "ValueError") = some true)
    (zBadWheel_no0 : PySem.W.findIn K (.ref C_BadWheel) "part" = some Option.none)
    (zBadWheel_kBadNumber : PySem.W.kitOne K (.ref C_BadWheel) (.ref C_BadNumber) = some false)
    (zBadWheel_kBadWheel : PySem.W.kitOne K (.ref C_BadWheel) (.ref C_BadWheel) = some true)
    (zBadWheel_kBadText : PySem.W.kitOne K (.ref C_BadWheel) (.ref C_BadText) = some false)
    (zBadText_L : K.lookup C_BadText = some (excClassObj nmBadText qbBadText C_BadText NbBadText bsBadText bmBadText true snBadText suBadText abBadText coBadText ddBadText m0BadText m1BadText m2BadText m3BadText m5BadText "ValueError.__new__"))
    (zBadText_b : PySem.HandSPX.refsVE bmBadText = true)
    (zBadText_sa : PySem.W.findIn K (.ref C_BadText) "__setattr__" = some (some (.builtin "object.__setattr__")))
    (zBadText_ex : PySem.W.subIn K (.ref C_BadText) (.type "BaseException") = some true)
    (zBadText_ty : PySem.W.typeIn K (.ref C_BadText) = some (.type "type"))
    (zBadText_k : PySem.W.keepIn K (.ref C_BadText) = true)
    (zBadText_tI : PySem.W.typeIn K (.ref f_BadText_init) = some (.type "function"))
    (zBadText_cl : PySem.W.isClsIn K C_BadText = true)
    (zBadText_ga : PySem.W.findIn K (.ref C_BadText) "__getattribute__" = some (some (.builtin "BaseException.__getattribute__")))
    (zBadText_gg : PySem.W.findIn K (.ref C_BadText) "__getattr__" = some Option.none)
    (zBadText_hd : PySem.W.hasDictIn K C_BadText = true)
    (zBadText_ha : PySem.W.findIn K (.ref C_BadText) "__class__" = some (some (.builtin "object.__class__")))
    (zBadText_hm : PySem.W.mroIn K C_BadText (.type "object") = some true)
    (zBadText_RC : PySem.W.subIn K (.ref C_BadText) (.ref C_ReachError) = some true)
    (zBadText_kV : PySem.W.kitOne K (.ref C_BadText) (.type "ValueError") = some true)
    (zBadText_no0 : PySem.W.findIn K (.ref C_BadText) "word" = some Option.none)
    (zBadText_no1 : PySem.W.findIn K (.ref C_BadText) "line" = some Option.none)
    (zBadText_kBadNumber : PySem.W.kitOne K (.ref C_BadText) (.ref C_BadNumber) = some false)
    (zBadText_kBadWheel : PySem.W.kitOne K (.ref C_BadText) (.ref C_BadWheel) = some false)
    (zBadText_kBadText : PySem.W.kitOne K (.ref C_BadText) (.ref C_BadText) = some true)
    (y_gfalse : PySem.W.specialIn K (.bool false) "__get__" = some none)
    (y_gtrue : PySem.W.specialIn K (.bool true) "__get__" = some none)
    (y_feq : PySem.W.isFn K (.ref f_Wheel_eq) = true)
    (y_fstr : PySem.W.isFn K (.ref f_Wheel_str) = true)
    (y_fwid : PySem.W.isFn K (.ref f_Wheel_wider) = true)
    (y_fmul : PySem.W.isFn K (.ref f_Wheel_mul) = true)
    (y_io : PySem.W.findIn K (.type "object") "__imul__" = some Option.none)
    (y_r1 : PySem.W.readsIn K C_Wheel (.type "type") = true)
    (y_r2 : PySem.W.specialIn K (.ref C_Wheel) "__getattribute__" = some (some (.builtin "type.__getattribute__")))
    (y_mint : ∃ fo, PySem.W.findIn K (.type "int") "__mul__" = some fo)
    (y_rint : ∃ fo, PySem.W.findIn K (.type "int") "__rmul__" = some fo)
    (y_mNoneType : ∃ fo, PySem.W.findIn K (.type "NoneType") "__mul__" = some fo)
    (y_rNoneType : ∃ fo, PySem.W.findIn K (.type "NoneType") "__rmul__" = some fo)
    (y_mbool : ∃ fo, PySem.W.findIn K (.type "bool") "__mul__" = some fo)
    (y_rbool : ∃ fo, PySem.W.findIn K (.type "bool") "__rmul__" = some fo)
    (y_mstr : ∃ fo, PySem.W.findIn K (.type "str") "__mul__" = some fo)
    (y_rstr : ∃ fo, PySem.W.findIn K (.type "str") "__rmul__" = some fo)
    (y_mlist : ∃ fo, PySem.W.findIn K (.type "list") "__mul__" = some fo)
    (y_rlist : ∃ fo, PySem.W.findIn K (.type "list") "__rmul__" = some fo)
    (yWheel_cls : Cls K C_Wheel)
    (yWheel_n1 : NoAttr K C_Wheel "period")
    (yWheel_n2 : NoAttr K C_Wheel "back")
    (yWheel_n3 : NoAttr K C_Wheel "ahead")
    (yWheel_con : PySem.W.findIn K (.ref C_Wheel) "TRUSTED" = some (some (.bool false)))
    (yWheel_m1 : PySem.W.makesIn K C_Wheel = true)
    (yWheel_m3 : PySem.W.isFn K (.ref f_Wheel_init) = true)
    (yWheel_m4 : PySem.W.keepIn K (.ref C_Wheel) = true)
    (yWheel_eq : PySem.W.findIn K (.ref C_Wheel) "__eq__" = some (some (.ref f_Wheel_eq)))
    (yWheel_ne : PySem.W.findIn K (.ref C_Wheel) "__ne__" = some (some (.builtin "object.__ne__")))
    (yWheel_str : PySem.W.findIn K (.ref C_Wheel) "__str__" = some (some (.ref f_Wheel_str)))
    (yWheel_wid : PySem.W.findIn K (.ref C_Wheel) "wider" = some (some (.ref f_Wheel_wider)))
    (yWheel_ha : PySem.W.findIn K (.ref C_Wheel) "__class__" = some (some (.builtin "object.__class__")))
    (yWheel_hm : PySem.W.mroIn K C_Wheel (.type "object") = some true)
    (yWheel_kW : PySem.W.kitOne K (.ref C_Wheel) (.ref C_Wheel) = some true)
    (yWheel_kG : PySem.W.kitOne K (.ref C_Wheel) (.ref C_Grid) = some false)
    (yWheel_kS : PySem.W.kitOne K (.ref C_Wheel) (.type "str") = some false)
    (yWheel_sf : PySem.W.selfFirst K C_Wheel = true)
    (yWheel_mu : PySem.W.findIn K (.ref C_Wheel) "__mul__" = some (some (.ref f_Wheel_mul)))
    (yWheel_rm : PySem.W.findIn K (.ref C_Wheel) "__rmul__" = some Option.none)
    (yWheel_ia : PySem.W.findIn K (.ref C_Wheel) "__imul__" = some Option.none)
    (yWheel_mro : ∃ cd, PySem.W.clsIn K C_Wheel = some cd ∧ cd.mro = [.ref C_Wheel, .type "object"])
    (yWheel_uint : PySem.W.subIn K (.type "int") (.ref C_Wheel) = some false)
    (yWheel_uNoneType : PySem.W.subIn K (.type "NoneType") (.ref C_Wheel) = some false)
    (yWheel_ubool : PySem.W.subIn K (.type "bool") (.ref C_Wheel) = some false)
    (yWheel_ustr : PySem.W.subIn K (.type "str") (.ref C_Wheel) = some false)
    (yWheel_ulist : PySem.W.subIn K (.type "list") (.ref C_Wheel) = some false)
    (yWheel_fWheel : PySem.W.notFirst K C_Wheel (.ref C_Wheel) = true)
    (yWheel_sEven : PySem.W.subIn K (.ref C_Even) (.ref C_Wheel) = some true)
    (yWheel_dEven : (Value.ref C_Wheel != Value.ref C_Even) = true)
    (yWheel_sExact : PySem.W.subIn K (.ref C_Exact) (.ref C_Wheel) = some true)
    (yWheel_dExact : (Value.ref C_Wheel != Value.ref C_Exact) = true)
    (yWheel_sLagging : PySem.W.subIn K (.ref C_Lagging) (.ref C_Wheel) = some true)
    (yWheel_dLagging : (Value.ref C_Wheel != Value.ref C_Lagging) = true)
    (yWheel_sGrid : PySem.W.subIn K (.ref C_Grid) (.ref C_Wheel) = some true)
    (yWheel_dGrid : (Value.ref C_Wheel != Value.ref C_Grid) = true)
    (yEven_cls : Cls K C_Even)
    (yEven_n1 : NoAttr K C_Even "period")
    (yEven_n2 : NoAttr K C_Even "back")
    (yEven_n3 : NoAttr K C_Even "ahead")
    (yEven_con : PySem.W.findIn K (.ref C_Even) "TRUSTED" = some (some (.bool false)))
    (yEven_m1 : PySem.W.makesIn K C_Even = true)
    (yEven_m3 : PySem.W.isFn K (.ref f_Even_init) = true)
    (yEven_m4 : PySem.W.keepIn K (.ref C_Even) = true)
    (yEven_eq : PySem.W.findIn K (.ref C_Even) "__eq__" = some (some (.ref f_Wheel_eq)))
    (yEven_ne : PySem.W.findIn K (.ref C_Even) "__ne__" = some (some (.builtin "object.__ne__")))
    (yEven_str : PySem.W.findIn K (.ref C_Even) "__str__" = some (some (.ref f_Wheel_str)))
    (yEven_wid : PySem.W.findIn K (.ref C_Even) "wider" = some (some (.ref f_Wheel_wider)))
    (yEven_ha : PySem.W.findIn K (.ref C_Even) "__class__" = some (some (.builtin "object.__class__")))
    (yEven_hm : PySem.W.mroIn K C_Even (.type "object") = some true)
    (yEven_kW : PySem.W.kitOne K (.ref C_Even) (.ref C_Wheel) = some true)
    (yEven_kG : PySem.W.kitOne K (.ref C_Even) (.ref C_Grid) = some false)
    (yEven_kS : PySem.W.kitOne K (.ref C_Even) (.type "str") = some false)
    (yEven_sf : PySem.W.selfFirst K C_Even = true)
    (yEven_mu : PySem.W.findIn K (.ref C_Even) "__mul__" = some (some (.ref f_Wheel_mul)))
    (yEven_rm : PySem.W.findIn K (.ref C_Even) "__rmul__" = some Option.none)
    (yEven_ia : PySem.W.findIn K (.ref C_Even) "__imul__" = some Option.none)
    (yEven_mro : ∃ cd, PySem.W.clsIn K C_Even = some cd ∧ cd.mro = [.ref C_Even, .ref C_Wheel, .type "object"])
    (yEven_uint : PySem.W.subIn K (.type "int") (.ref C_Even) = some false)
    (yEven_uNoneType : PySem.W.subIn K (.type "NoneType") (.ref C_Even) = some false)
    (yEven_ubool : PySem.W.subIn K (.type "bool") (.ref C_Even) = some false)
    (yEven_ustr : PySem.W.subIn K (.type "str") (.ref C_Even) = some false)
    (yEven_ulist : PySem.W.subIn K (.type "list") (.ref C_Even) = some false)
    (yEven_fWheel : PySem.W.notFirst K C_Even (.ref C_Wheel) = true)
    (yEven_fEven : PySem.W.notFirst K C_Even (.ref C_Even) = true)
    (yEven_fExact : PySem.W.notFirst K C_Even (.ref C_Exact) = true)
    (yEven_fLagging : PySem.W.notFirst K C_Even (.ref C_Lagging) = true)
    (yEven_fGrid : PySem.W.notFirst K C_Even (.ref C_Grid) = true)
    (yEven_sub : PySem.W.mroIn K C_Even (.ref C_Even) = some true)
    (yEven_sup : PySem.W.ks_superIn K C_Even C_Even "__init__" = some (some (.ref f_Wheel_init)))
    (yExact_cls : Cls K C_Exact)
    (yExact_n1 : NoAttr K C_Exact "period")
    (yExact_n2 : NoAttr K C_Exact "back")
    (yExact_n3 : NoAttr K C_Exact "ahead")
    (yExact_con : PySem.W.findIn K (.ref C_Exact) "TRUSTED" = some (some (.bool false)))
    (yExact_m1 : PySem.W.makesIn K C_Exact = true)
    (yExact_m3 : PySem.W.isFn K (.ref f_Exact_init) = true)
    (yExact_m4 : PySem.W.keepIn K (.ref C_Exact) = true)
    (yExact_eq : PySem.W.findIn K (.ref C_Exact) "__eq__" = some (some (.ref f_Wheel_eq)))
    (yExact_ne : PySem.W.findIn K (.ref C_Exact) "__ne__" = some (some (.builtin "object.__ne__")))
    (yExact_str : PySem.W.findIn K (.ref C_Exact) "__str__" = some (some (.ref f_Wheel_str)))
    (yExact_wid : PySem.W.findIn K (.ref C_Exact) "wider" = some (some (.ref f_Wheel_wider)))
    (yExact_ha : PySem.W.findIn K (.ref C_Exact) "__class__" = some (some (.builtin "object.__class__")))
    (yExact_hm : PySem.W.mroIn K C_Exact (.type "object") = some true)
    (yExact_kW : PySem.W.kitOne K (.ref C_Exact) (.ref C_Wheel) = some true)
    (yExact_kG : PySem.W.kitOne K (.ref C_Exact) (.ref C_Grid) = some false)
    (yExact_kS : PySem.W.kitOne K (.ref C_Exact) (.type "str") = some false)
    (yExact_sf : PySem.W.selfFirst K C_Exact = true)
    (yExact_mu : PySem.W.findIn K (.ref C_Exact) "__mul__" = some (some (.ref f_Wheel_mul)))
    (yExact_rm : PySem.W.findIn K (.ref C_Exact) "__rmul__" = some Option.none)
    (yExact_ia : PySem.W.findIn K (.ref C_Exact) "__imul__" = some Option.none)
    (yExact_mro : ∃ cd, PySem.W.clsIn K C_Exact = some cd ∧ cd.mro = [.ref C_Exact, .ref C_Wheel, .type "object"])
    (yExact_uint : PySem.W.subIn K (.type "int") (.ref C_Exact) = some false)
    (yExact_uNoneType : PySem.W.subIn K (.type "NoneType") (.ref C_Exact) = some false)
    (yExact_ubool : PySem.W.subIn K (.type "bool") (.ref C_Exact) = some false)
    (yExact_ustr : PySem.W.subIn K (.type "str") (.ref C_Exact) = some false)
    (yExact_ulist : PySem.W.subIn K (.type "list") (.ref C_Exact) = some false)
    (yExact_fWheel : PySem.W.notFirst K C_Exact (.ref C_Wheel) = true)
    (yExact_fEven : PySem.W.notFirst K C_Exact (.ref C_Even) = true)
    (yExact_fExact : PySem.W.notFirst K C_Exact (.ref C_Exact) = true)
    (yExact_fLagging : PySem.W.notFirst K C_Exact (.ref C_Lagging) = true)
    (yExact_fGrid : PySem.W.notFirst K C_Exact (.ref C_Grid) = true)
    (yExact_sub : PySem.W.mroIn K C_Exact (.ref C_Exact) = some true)
    (yExact_sup : PySem.W.ks_superIn K C_Exact C_Exact "__init__" = some (some (.ref f_Wheel_init)))
    (yLagging_cls : Cls K C_Lagging)
    (yLagging_n1 : NoAttr K C_Lagging "period")
    (yLagging_n2 : NoAttr K C_Lagging "back")
    (yLagging_n3 : NoAttr K C_Lagging "ahead")
    (yLagging_con : PySem.W.findIn K (.ref C_Lagging) "TRUSTED" = some (some (.bool false)))
    (yLagging_m1 : PySem.W.makesIn K C_Lagging = true)
    (yLagging_m3 : PySem.W.isFn K (.ref f_Lagging_init) = true)
    (yLagging_m4 : PySem.W.keepIn K (.ref C_Lagging) = true)
    (yLagging_eq : PySem.W.findIn K (.ref C_Lagging) "__eq__" = some (some (.ref f_Wheel_eq)))
    (yLagging_ne : PySem.W.findIn K (.ref C_Lagging) "__ne__" = some (some (.builtin "object.__ne__")))
    (yLagging_str : PySem.W.findIn K (.ref C_Lagging) "__str__" = some (some (.ref f_Wheel_str)))
    (yLagging_wid : PySem.W.findIn K (.ref C_Lagging) "wider" = some (some (.ref f_Wheel_wider)))
    (yLagging_ha : PySem.W.findIn K (.ref C_Lagging) "__class__" = some (some (.builtin "object.__class__")))
    (yLagging_hm : PySem.W.mroIn K C_Lagging (.type "object") = some true)
    (yLagging_kW : PySem.W.kitOne K (.ref C_Lagging) (.ref C_Wheel) = some true)
    (yLagging_kG : PySem.W.kitOne K (.ref C_Lagging) (.ref C_Grid) = some false)
    (yLagging_kS : PySem.W.kitOne K (.ref C_Lagging) (.type "str") = some false)
    (yLagging_sf : PySem.W.selfFirst K C_Lagging = true)
    (yLagging_mu : PySem.W.findIn K (.ref C_Lagging) "__mul__" = some (some (.ref f_Wheel_mul)))
    (yLagging_rm : PySem.W.findIn K (.ref C_Lagging) "__rmul__" = some Option.none)
    (yLagging_ia : PySem.W.findIn K (.ref C_Lagging) "__imul__" = some Option.none)
    (yLagging_mro : ∃ cd, PySem.W.clsIn K C_Lagging = some cd ∧ cd.mro = [.ref C_Lagging, .ref C_Wheel, .type "object"])
    (yLagging_uint : PySem.W.subIn K (.type "int") (.ref C_Lagging) = some false)
    (yLagging_uNoneType : PySem.W.subIn K (.type "NoneType") (.ref C_Lagging) = some false)
    (yLagging_ubool : PySem.W.subIn K (.type "bool") (.ref C_Lagging) = some false)
    (yLagging_ustr : PySem.W.subIn K (.type "str") (.ref C_Lagging) = some false)
    (yLagging_ulist : PySem.W.subIn K (.type "list") (.ref C_Lagging) = some false)
    (yLagging_fWheel : PySem.W.notFirst K C_Lagging (.ref C_Wheel) = true)
    (yLagging_fEven : PySem.W.notFirst K C_Lagging (.ref C_Even) = true)
    (yLagging_fExact : PySem.W.notFirst K C_Lagging (.ref C_Exact) = true)
    (yLagging_fLagging : PySem.W.notFirst K C_Lagging (.ref C_Lagging) = true)
    (yLagging_fGrid : PySem.W.notFirst K C_Lagging (.ref C_Grid) = true)
    (yLagging_sub : PySem.W.mroIn K C_Lagging (.ref C_Lagging) = some true)
    (yLagging_sup : PySem.W.ks_superIn K C_Lagging C_Lagging "__init__" = some (some (.ref f_Wheel_init)))
    (yGrid_cls : Cls K C_Grid)
    (yGrid_n1 : NoAttr K C_Grid "period")
    (yGrid_n2 : NoAttr K C_Grid "back")
    (yGrid_n3 : NoAttr K C_Grid "ahead")
    (yGrid_con : PySem.W.findIn K (.ref C_Grid) "TRUSTED" = some (some (.bool true)))
    (yGrid_m1 : PySem.W.makesIn K C_Grid = true)
    (yGrid_m3 : PySem.W.isFn K (.ref f_Grid_init) = true)
    (yGrid_m4 : PySem.W.keepIn K (.ref C_Grid) = true)
    (yGrid_eq : PySem.W.findIn K (.ref C_Grid) "__eq__" = some (some (.ref f_Wheel_eq)))
    (yGrid_ne : PySem.W.findIn K (.ref C_Grid) "__ne__" = some (some (.builtin "object.__ne__")))
    (yGrid_str : PySem.W.findIn K (.ref C_Grid) "__str__" = some (some (.ref f_Wheel_str)))
    (yGrid_wid : PySem.W.findIn K (.ref C_Grid) "wider" = some (some (.ref f_Wheel_wider)))
    (yGrid_ha : PySem.W.findIn K (.ref C_Grid) "__class__" = some (some (.builtin "object.__class__")))
    (yGrid_hm : PySem.W.mroIn K C_Grid (.type "object") = some true)
    (yGrid_kW : PySem.W.kitOne K (.ref C_Grid) (.ref C_Wheel) = some true)
    (yGrid_kG : PySem.W.kitOne K (.ref C_Grid) (.ref C_Grid) = some true)
    (yGrid_kS : PySem.W.kitOne K (.ref C_Grid) (.type "str") = some false)
    (yGrid_sf : PySem.W.selfFirst K C_Grid = true)
    (yGrid_mu : PySem.W.findIn K (.ref C_Grid) "__mul__" = some (some (.ref f_Wheel_mul)))
    (yGrid_rm : PySem.W.findIn K (.ref C_Grid) "__rmul__" = some Option.none)
    (yGrid_ia : PySem.W.findIn K (.ref C_Grid) "__imul__" = some Option.none)
    (yGrid_mro : ∃ cd, PySem.W.clsIn K C_Grid = some cd ∧ cd.mro = [.ref C_Grid, .ref C_Wheel, .type "object"])
    (yGrid_uint : PySem.W.subIn K (.type "int") (.ref C_Grid) = some false)
    (yGrid_uNoneType : PySem.W.subIn K (.type "NoneType") (.ref C_Grid) = some false)
    (yGrid_ubool : PySem.W.subIn K (.type "bool") (.ref C_Grid) = some false)
    (yGrid_ustr : PySem.W.subIn K (.type "str") (.ref C_Grid) = some false)
    (yGrid_ulist : PySem.W.subIn K (.type "list") (.ref C_Grid) = some false)
    (yGrid_fWheel : PySem.W.notFirst K C_Grid (.ref C_Wheel) = true)
    (yGrid_fEven : PySem.W.notFirst K C_Grid (.ref C_Even) = true)
    (yGrid_fExact : PySem.W.notFirst K C_Grid (.ref C_Exact) = true)
    (yGrid_fLagging : PySem.W.notFirst K C_Grid (.ref C_Lagging) = true)
    (yGrid_fGrid : PySem.W.notFirst K C_Grid (.ref C_Grid) = true)
    (yGrid_sub : PySem.W.mroIn K C_Grid (.ref C_Grid) = some true)
    (yGrid_sup : PySem.W.ks_superIn K C_Grid C_Grid "__init__" = some (some (.ref f_Wheel_init)))
    (w_cls : Cls K C_Words)
    (w_n1 : NoAttr K C_Words "words")
    (w_n2 : NoAttr K C_Words "line")
    (w_n3 : NoAttr K C_Words "at")
    (w_m1 : PySem.W.makesIn K C_Words = true)
    (w_m3 : PySem.W.isFn K (.ref f_Words_init) = true)
    (w_m4 : PySem.W.keepIn K (.ref C_Words) = true)
    (w_f0 : PySem.W.isFn K (.ref f_Words_upcoming) = true)
    (w_f1 : PySem.W.isFn K (.ref f_Words_take) = true)
    (w_f2 : PySem.W.isFn K (.ref f_Words_take_number) = true)
    (w_f3 : PySem.W.isFn K (.ref f_Words_finish) = true)
    (x_pp : pp_made_right ≠ pp_read_right) :
    LawG l w K 14 mg fa h := by
  have e := hfa.symm.trans (PySem.W.mg_of X G a_law)
  cases e
  obtain ⟨hP_made_right, hd_made_right⟩ := tabs "_law_made_right" (by decide) f_made_right cc_made_right pp_made_right _ _ _ _ _ _ (PySem.W.mg_of X G a_made_right) l_made_right rfl rfl t_made_right p_made_right
  obtain ⟨hP_read_right, hd_read_right⟩ := tabs "_law_read_right" (by decide) f_read_right cc_read_right pp_read_right _ _ _ _ _ _ (PySem.W.mg_of X G a_read_right) l_read_right rfl rfl t_read_right p_read_right
  have HP : PrF lawFile l.prog := ⟨x_pf, x_pt⟩
  let T : Txt K mg := { a_is_whole := f_is_whole, fd_is_whole := _, F_is_whole := fun_mk (st := s_is_whole) l_is_whole c_is_whole k_is_whole, m_is_whole := PySem.W.mg_of X G a_is_whole, a_is_between := f_is_between, fd_is_between := _, F_is_between := fun_mk (st := s_is_between) l_is_between c_is_between k_is_between, m_is_between := PySem.W.mg_of X G a_is_between, a_number_in := f_number_in, fd_number_in := _, F_number_in := fun_mk (st := s_number_in) l_number_in c_number_in k_number_in, m_number_in := PySem.W.mg_of X G a_number_in, a_need_part := f_need_part, fd_need_part := _, F_need_part := fun_mk (st := s_need_part) l_need_part c_need_part k_need_part, m_need_part := PySem.W.mg_of X G a_need_part, a_take_wheel := f_take_wheel, fd_take_wheel := _, F_take_wheel := fun_mk (st := s_take_wheel) l_take_wheel c_take_wheel k_take_wheel, m_take_wheel := PySem.W.mg_of X G a_take_wheel, a_pen := f_pen, fd_pen := _, F_pen := fun_mk (st := s_pen) l_pen c_pen k_pen, m_pen := PySem.W.mg_of X G a_pen, a_draw := f_draw, fd_draw := _, F_draw := fun_mk (st := s_draw) l_draw c_draw k_draw, m_draw := PySem.W.mg_of X G a_draw, a_pick := f_pick, fd_pick := _, F_pick := fun_mk (st := s_pick) l_pick c_pick k_pick, m_pick := PySem.W.mg_of X G a_pick, a_heard := f_heard, fd_heard := _, F_heard := fun_mk (st := s_heard) l_heard c_heard k_heard, m_heard := PySem.W.mg_of X G a_heard, a_wheel := f_wheel, fd_wheel := _, F_wheel := fun_mk (st := s_wheel) l_wheel c_wheel k_wheel, m_wheel := PySem.W.mg_of X G a_wheel, a_of := f_of, fd_of := _, F_of := fun_mk (st := s_of) l_of c_of k_of, m_of := PySem.W.mg_of X G a_of, a_due := f_due, fd_due := _, F_due := fun_mk (st := s_due) l_due c_due k_due, m_due := PySem.W.mg_of X G a_due, a_bound := f_bound, fd_bound := _, F_bound := fun_mk (st := s_bound) l_bound c_bound k_bound, m_bound := PySem.W.mg_of X G a_bound, a_made_right := f_made_right, fd_made_right := _, F_made_right := fun_mk (st := s_made_right) l_made_right c_made_right k_made_right, m_made_right := PySem.W.mg_of X G a_made_right, a_is_figures := f_is_figures, fd_is_figures := _, F_is_figures := fun_mk (st := s_is_figures) l_is_figures c_is_figures k_is_figures, m_is_figures := PySem.W.mg_of X G a_is_figures, a_wrong := f_wrong, fd_wrong := _, F_wrong := fun_mk (st := s_wrong) l_wrong c_wrong k_wrong, m_wrong := PySem.W.mg_of X G a_wrong, a_bent := f_bent, fd_bent := _, F_bent := fun_mk (st := s_bent) l_bent c_bent k_bent, m_bent := PySem.W.mg_of X G a_bent, a_read_right := f_read_right, fd_read_right := _, F_read_right := fun_mk (st := s_read_right) l_read_right c_read_right k_read_right, m_read_right := PySem.W.mg_of X G a_read_right, a_law := fa, fd_law := _, F_law := fun_mk (st := s_law) l_law c_law k_law, m_law := PySem.W.mg_of X G a_law, a_BadNumber_init := f_BadNumber_init, fd_BadNumber_init := _, F_BadNumber_init := fun_mk (st := s_BadNumber_init) l_BadNumber_init c_BadNumber_init k_BadNumber_init, a_BadWheel_init := f_BadWheel_init, fd_BadWheel_init := _, F_BadWheel_init := fun_mk (st := s_BadWheel_init) l_BadWheel_init c_BadWheel_init k_BadWheel_init, a_BadText_init := f_BadText_init, fd_BadText_init := _, F_BadText_init := fun_mk (st := s_BadText_init) l_BadText_init c_BadText_init k_BadText_init, a_Words_init := f_Words_init, fd_Words_init := _, F_Words_init := ⟨⟨_, _, _, _, _, _, _, _, _, _, rfl, l_Words_init, c_Words_init, .inr ⟨by simp, by obtain ⟨its, e1, e2⟩ := dv1_Words_init; exact ⟨_, _, its, _, rfl, d_Words_init, by rw [e1], e2⟩⟩, .inl rfl⟩, k_Words_init⟩, a_Words_upcoming := f_Words_upcoming, fd_Words_upcoming := _, F_Words_upcoming := fun_mk (st := s_Words_upcoming) l_Words_upcoming c_Words_upcoming k_Words_upcoming, a_Words_take := f_Words_take, fd_Words_take := _, F_Words_take := fun_mk (st := s_Words_take) l_Words_take c_Words_take k_Words_take, a_Words_take_number := f_Words_take_number, fd_Words_take_number := _, F_Words_take_number := fun_mk (st := s_Words_take_number) l_Words_take_number c_Words_take_number k_Words_take_number, a_Words_finish := f_Words_finish, fd_Words_finish := _, F_Words_finish := fun_mk (st := s_Words_finish) l_Words_finish c_Words_finish k_Words_finish, a_Wheel_init := f_Wheel_init, fd_Wheel_init := _, F_Wheel_init := fun_mk (st := s_Wheel_init) l_Wheel_init c_Wheel_init k_Wheel_init, a_Wheel_read := f_Wheel_read, fd_Wheel_read := _, F_Wheel_read := fun_mk (st := s_Wheel_read) l_Wheel_read c_Wheel_read k_Wheel_read, a_Wheel_eq := f_Wheel_eq, fd_Wheel_eq := _, F_Wheel_eq := fun_mk (st := s_Wheel_eq) l_Wheel_eq c_Wheel_eq k_Wheel_eq, a_Wheel_str := f_Wheel_str, fd_Wheel_str := _, F_Wheel_str := fun_mk (st := s_Wheel_str) l_Wheel_str c_Wheel_str k_Wheel_str, a_Wheel_mul := f_Wheel_mul, fd_Wheel_mul := _, F_Wheel_mul := fun_mk (st := s_Wheel_mul) l_Wheel_mul c_Wheel_mul k_Wheel_mul, a_Wheel_wider := f_Wheel_wider, fd_Wheel_wider := _, F_Wheel_wider := fun_mk (st := s_Wheel_wider) l_Wheel_wider c_Wheel_wider k_Wheel_wider, a_Even_init := f_Even_init, cda_Even_init := ca_Even_init, cc_Even_init := cc_Even_init, fd_Even_init := _, F_Even_init := funS_mk (st := s_Even_init) l_Even_init c_Even_init k_Even_init, so_Even_init := ⟨⟨_, _, _, _, _, t_Even_init, p_Even_init⟩, ⟨_, _, _, y_Even_init⟩, ⟨_, w_Even_init⟩, PySem.W.mg_none_of X G z_super, x_any, x_sT, x_sF⟩, a_Exact_init := f_Exact_init, cda_Exact_init := ca_Exact_init, cc_Exact_init := cc_Exact_init, fd_Exact_init := _, F_Exact_init := funS_mk (st := s_Exact_init) l_Exact_init c_Exact_init k_Exact_init, so_Exact_init := ⟨⟨_, _, _, _, _, t_Exact_init, p_Exact_init⟩, ⟨_, _, _, y_Exact_init⟩, ⟨_, w_Exact_init⟩, PySem.W.mg_none_of X G z_super, x_any, x_sT, x_sF⟩, a_Lagging_init := f_Lagging_init, cda_Lagging_init := ca_Lagging_init, cc_Lagging_init := cc_Lagging_init, fd_Lagging_init := _, F_Lagging_init := funS_mk (st := s_Lagging_init) l_Lagging_init c_Lagging_init k_Lagging_init, so_Lagging_init := ⟨⟨_, _, _, _, _, t_Lagging_init, p_Lagging_init⟩, ⟨_, _, _, y_Lagging_init⟩, ⟨_, w_Lagging_init⟩, PySem.W.mg_none_of X G z_super, x_any, x_sT, x_sF⟩, a_Grid_init := f_Grid_init, cda_Grid_init := ca_Grid_init, cc_Grid_init := cc_Grid_init, fd_Grid_init := _, F_Grid_init := funS_mk (st := s_Grid_init) l_Grid_init c_Grid_init k_Grid_init, so_Grid_init := ⟨⟨_, _, _, _, _, t_Grid_init, p_Grid_init⟩, ⟨_, _, _, y_Grid_init⟩, ⟨_, w_Grid_init⟩, PySem.W.mg_none_of X G z_super, x_any, x_sT, x_sF⟩, n_ValueError := PySem.W.mg_none_of X G z_ValueError, n_abs := PySem.W.mg_none_of X G z_abs, n_bool := PySem.W.mg_none_of X G z_bool, n_enumerate := PySem.W.mg_none_of X G z_enumerate, n_int := PySem.W.mg_none_of X G z_int, n_isinstance := PySem.W.mg_none_of X G z_isinstance, n_len := PySem.W.mg_none_of X G z_len, n_list := PySem.W.mg_none_of X G z_list, n_property := PySem.W.mg_none_of X G z_property, n_range := PySem.W.mg_none_of X G z_range, n_repr := PySem.W.mg_none_of X G z_repr, n_staticmethod := PySem.W.mg_none_of X G z_staticmethod, n_str := PySem.W.mg_none_of X G z_str, n_super := PySem.W.mg_none_of X G z_super, a_Wheel := C_Wheel, m_Wheel := PySem.W.mg_of X G x_Wheel, a_Even := C_Even, m_Even := PySem.W.mg_of X G x_Even, a_Exact := C_Exact, m_Exact := PySem.W.mg_of X G x_Exact, a_Lagging := C_Lagging, m_Lagging := PySem.W.mg_of X G x_Lagging, a_Grid := C_Grid, m_Grid := PySem.W.mg_of X G x_Grid, a_Words := C_Words, m_Words := PySem.W.mg_of X G x_Words, p_read := p_Wheel_read, u_MP := .int 1000000000000 tM, m_MP := PySem.W.mg_of X G x_MP, r_MP := ⟨_, rfl⟩, u_MD := .int 120 tD, m_MD := PySem.W.mg_of X G x_MD, r_MD := ⟨_, rfl⟩, bad := { C := C_BadWheel, f := f_BadWheel_init, fd := _, oex := ⟨⟨_, _, _, _, _, _, _, _, _, _, _, _, _, _, _, zBadWheel_L, zBadWheel_b⟩, zBadWheel_sa, zBadWheel_ex, zBadWheel_ty, zBadWheel_k⟩, iC := a_BadWheel_init, tI := zBadWheel_tI, F := fun_mk (st := s_BadWheel_init) l_BadWheel_init c_BadWheel_init k_BadWheel_init, no := zBadWheel_no0, m := PySem.W.mg_of X G x_BadWheel }, badN := { C := C_BadNumber, f := f_BadNumber_init, fd := _, oex := ⟨⟨_, _, _, _, _, _, _, _, _, _, _, _, _, _, _, zBadNumber_L, zBadNumber_b⟩, zBadNumber_sa, zBadNumber_ex, zBadNumber_ty, zBadNumber_k⟩, iC := a_BadNumber_init, tI := zBadNumber_tI, F := fun_mk (st := s_BadNumber_init) l_BadNumber_init c_BadNumber_init k_BadNumber_init, no := zBadNumber_no0, m := PySem.W.mg_of X G x_BadNumber }, badT := { C := C_BadText, f := f_BadText_init, fd := _, oex := ⟨⟨_, _, _, _, _, _, _, _, _, _, _, _, _, _, _, zBadText_L, zBadText_b⟩, zBadText_sa, zBadText_ex, zBadText_ty, zBadText_k⟩, iC := a_BadText_init, tI := zBadText_tI, F := fun_mk (st := s_BadText_init) l_BadText_init c_BadText_init k_BadText_init, no2 := zBadText_no0, no1 := zBadText_no1, m := PySem.W.mg_of X G x_BadText }, wcls := w_cls, wmk := ⟨w_m1, a_Words_init, w_m3, w_m4⟩, w_upcoming := ⟨a_Words_upcoming, w_f0, k_Words_upcoming⟩, w_take := ⟨a_Words_take, w_f1, k_Words_take⟩, w_take_number := ⟨a_Words_take_number, w_f2, k_Words_take_number⟩, w_finish := ⟨a_Words_finish, w_f3, k_Words_finish⟩, w_na := fun y hy => by simp only [List.mem_cons, List.not_mem_nil, or_false] at hy; rcases hy with rfl | rfl | rfl; exact w_n1; exact w_n2; exact w_n3, rdW := ⟨y_r1, y_r2⟩, st_read := a_Wheel_read }
  have W : Whl T := {
    W := {
      w := { w := ⟨yWheel_cls, fun y hy => by simp only [List.mem_cons, List.not_mem_nil, or_false] at hy; rcases hy with rfl | rfl | rfl; exact yWheel_n1; exact yWheel_n2; exact yWheel_n3⟩, con := ⟨.bool false, yWheel_con, rfl, y_gfalse, by decide⟩ }
      ty := fun H a dx fs e => .base (.ins e yWheel_cls yWheel_ha x_hn x_ht yWheel_hm)
      wh := yWheel_kW
      gr := yWheel_kG
      st := yWheel_kS
      mkr := ⟨yWheel_m1, a_Wheel_init, yWheel_m3, yWheel_m4⟩
      eq := yWheel_eq
      ne := yWheel_ne
      mro := yWheel_hm
      str := yWheel_str
      wider := ⟨yWheel_wid, y_fwid, k_Wheel_wider⟩
      mul := fun t ht => by
        simp only [List.mem_cons, List.not_mem_nil, or_false] at ht
        rcases ht with rfl | rfl | rfl | rfl | rfl
        · exact ⟨yWheel_sf, yWheel_mu, y_fmul, yWheel_rm, y_mint, y_rint, yWheel_uint⟩
        · exact ⟨yWheel_sf, yWheel_mu, y_fmul, yWheel_rm, y_mNoneType, y_rNoneType, yWheel_uNoneType⟩
        · exact ⟨yWheel_sf, yWheel_mu, y_fmul, yWheel_rm, y_mbool, y_rbool, yWheel_ubool⟩
        · exact ⟨yWheel_sf, yWheel_mu, y_fmul, yWheel_rm, y_mstr, y_rstr, yWheel_ustr⟩
        · exact ⟨yWheel_sf, yWheel_mu, y_fmul, yWheel_rm, y_mlist, y_rlist, yWheel_ulist⟩
      mulI := ⟨yWheel_sf, yWheel_mu, y_fmul, yWheel_rm, y_mint, y_rint, yWheel_uint⟩
      imul := by
        obtain ⟨cd, h1, h2⟩ := yWheel_mro
        refine ⟨cd, h1, fun c hc => ?_⟩
        rw [h2] at hc
        simp only [List.mem_cons, List.not_mem_nil, or_false] at hc
        rcases hc with rfl | rfl
        · exact yWheel_ia
        · exact y_io
    }
    E := {
      w := { w := ⟨yEven_cls, fun y hy => by simp only [List.mem_cons, List.not_mem_nil, or_false] at hy; rcases hy with rfl | rfl | rfl; exact yEven_n1; exact yEven_n2; exact yEven_n3⟩, con := ⟨.bool false, yEven_con, rfl, y_gfalse, by decide⟩ }
      ty := fun H a dx fs e => .base (.ins e yEven_cls yEven_ha x_hn x_ht yEven_hm)
      wh := yEven_kW
      gr := yEven_kG
      st := yEven_kS
      mkr := ⟨yEven_m1, a_Even_init, yEven_m3, yEven_m4⟩
      eq := yEven_eq
      ne := yEven_ne
      mro := yEven_hm
      str := yEven_str
      wider := ⟨yEven_wid, y_fwid, k_Wheel_wider⟩
      mul := fun t ht => by
        simp only [List.mem_cons, List.not_mem_nil, or_false] at ht
        rcases ht with rfl | rfl | rfl | rfl | rfl
        · exact ⟨yEven_sf, yEven_mu, y_fmul, yEven_rm, y_mint, y_rint, yEven_uint⟩
        · exact ⟨yEven_sf, yEven_mu, y_fmul, yEven_rm, y_mNoneType, y_rNoneType, yEven_uNoneType⟩
        · exact ⟨yEven_sf, yEven_mu, y_fmul, yEven_rm, y_mbool, y_rbool, yEven_ubool⟩
        · exact ⟨yEven_sf, yEven_mu, y_fmul, yEven_rm, y_mstr, y_rstr, yEven_ustr⟩
        · exact ⟨yEven_sf, yEven_mu, y_fmul, yEven_rm, y_mlist, y_rlist, yEven_ulist⟩
      mulI := ⟨yEven_sf, yEven_mu, y_fmul, yEven_rm, y_mint, y_rint, yEven_uint⟩
      imul := by
        obtain ⟨cd, h1, h2⟩ := yEven_mro
        refine ⟨cd, h1, fun c hc => ?_⟩
        rw [h2] at hc
        simp only [List.mem_cons, List.not_mem_nil, or_false] at hc
        rcases hc with rfl | rfl | rfl
        · exact yEven_ia
        · exact yWheel_ia
        · exact y_io
    }
    X := {
      w := { w := ⟨yExact_cls, fun y hy => by simp only [List.mem_cons, List.not_mem_nil, or_false] at hy; rcases hy with rfl | rfl | rfl; exact yExact_n1; exact yExact_n2; exact yExact_n3⟩, con := ⟨.bool false, yExact_con, rfl, y_gfalse, by decide⟩ }
      ty := fun H a dx fs e => .base (.ins e yExact_cls yExact_ha x_hn x_ht yExact_hm)
      wh := yExact_kW
      gr := yExact_kG
      st := yExact_kS
      mkr := ⟨yExact_m1, a_Exact_init, yExact_m3, yExact_m4⟩
      eq := yExact_eq
      ne := yExact_ne
      mro := yExact_hm
      str := yExact_str
      wider := ⟨yExact_wid, y_fwid, k_Wheel_wider⟩
      mul := fun t ht => by
        simp only [List.mem_cons, List.not_mem_nil, or_false] at ht
        rcases ht with rfl | rfl | rfl | rfl | rfl
        · exact ⟨yExact_sf, yExact_mu, y_fmul, yExact_rm, y_mint, y_rint, yExact_uint⟩
        · exact ⟨yExact_sf, yExact_mu, y_fmul, yExact_rm, y_mNoneType, y_rNoneType, yExact_uNoneType⟩
        · exact ⟨yExact_sf, yExact_mu, y_fmul, yExact_rm, y_mbool, y_rbool, yExact_ubool⟩
        · exact ⟨yExact_sf, yExact_mu, y_fmul, yExact_rm, y_mstr, y_rstr, yExact_ustr⟩
        · exact ⟨yExact_sf, yExact_mu, y_fmul, yExact_rm, y_mlist, y_rlist, yExact_ulist⟩
      mulI := ⟨yExact_sf, yExact_mu, y_fmul, yExact_rm, y_mint, y_rint, yExact_uint⟩
      imul := by
        obtain ⟨cd, h1, h2⟩ := yExact_mro
        refine ⟨cd, h1, fun c hc => ?_⟩
        rw [h2] at hc
        simp only [List.mem_cons, List.not_mem_nil, or_false] at hc
        rcases hc with rfl | rfl | rfl
        · exact yExact_ia
        · exact yWheel_ia
        · exact y_io
    }
    L := {
      w := { w := ⟨yLagging_cls, fun y hy => by simp only [List.mem_cons, List.not_mem_nil, or_false] at hy; rcases hy with rfl | rfl | rfl; exact yLagging_n1; exact yLagging_n2; exact yLagging_n3⟩, con := ⟨.bool false, yLagging_con, rfl, y_gfalse, by decide⟩ }
      ty := fun H a dx fs e => .base (.ins e yLagging_cls yLagging_ha x_hn x_ht yLagging_hm)
      wh := yLagging_kW
      gr := yLagging_kG
      st := yLagging_kS
      mkr := ⟨yLagging_m1, a_Lagging_init, yLagging_m3, yLagging_m4⟩
      eq := yLagging_eq
      ne := yLagging_ne
      mro := yLagging_hm
      str := yLagging_str
      wider := ⟨yLagging_wid, y_fwid, k_Wheel_wider⟩
      mul := fun t ht => by
        simp only [List.mem_cons, List.not_mem_nil, or_false] at ht
        rcases ht with rfl | rfl | rfl | rfl | rfl
        · exact ⟨yLagging_sf, yLagging_mu, y_fmul, yLagging_rm, y_mint, y_rint, yLagging_uint⟩
        · exact ⟨yLagging_sf, yLagging_mu, y_fmul, yLagging_rm, y_mNoneType, y_rNoneType, yLagging_uNoneType⟩
        · exact ⟨yLagging_sf, yLagging_mu, y_fmul, yLagging_rm, y_mbool, y_rbool, yLagging_ubool⟩
        · exact ⟨yLagging_sf, yLagging_mu, y_fmul, yLagging_rm, y_mstr, y_rstr, yLagging_ustr⟩
        · exact ⟨yLagging_sf, yLagging_mu, y_fmul, yLagging_rm, y_mlist, y_rlist, yLagging_ulist⟩
      mulI := ⟨yLagging_sf, yLagging_mu, y_fmul, yLagging_rm, y_mint, y_rint, yLagging_uint⟩
      imul := by
        obtain ⟨cd, h1, h2⟩ := yLagging_mro
        refine ⟨cd, h1, fun c hc => ?_⟩
        rw [h2] at hc
        simp only [List.mem_cons, List.not_mem_nil, or_false] at hc
        rcases hc with rfl | rfl | rfl
        · exact yLagging_ia
        · exact yWheel_ia
        · exact y_io
    }
    G := {
      w := { w := ⟨yGrid_cls, fun y hy => by simp only [List.mem_cons, List.not_mem_nil, or_false] at hy; rcases hy with rfl | rfl | rfl; exact yGrid_n1; exact yGrid_n2; exact yGrid_n3⟩, con := ⟨.bool true, yGrid_con, rfl, y_gtrue, by decide⟩ }
      ty := fun H a dx fs e => .base (.ins e yGrid_cls yGrid_ha x_hn x_ht yGrid_hm)
      wh := yGrid_kW
      gr := yGrid_kG
      st := yGrid_kS
      mkr := ⟨yGrid_m1, a_Grid_init, yGrid_m3, yGrid_m4⟩
      eq := yGrid_eq
      ne := yGrid_ne
      mro := yGrid_hm
      str := yGrid_str
      wider := ⟨yGrid_wid, y_fwid, k_Wheel_wider⟩
      mul := fun t ht => by
        simp only [List.mem_cons, List.not_mem_nil, or_false] at ht
        rcases ht with rfl | rfl | rfl | rfl | rfl
        · exact ⟨yGrid_sf, yGrid_mu, y_fmul, yGrid_rm, y_mint, y_rint, yGrid_uint⟩
        · exact ⟨yGrid_sf, yGrid_mu, y_fmul, yGrid_rm, y_mNoneType, y_rNoneType, yGrid_uNoneType⟩
        · exact ⟨yGrid_sf, yGrid_mu, y_fmul, yGrid_rm, y_mbool, y_rbool, yGrid_ubool⟩
        · exact ⟨yGrid_sf, yGrid_mu, y_fmul, yGrid_rm, y_mstr, y_rstr, yGrid_ustr⟩
        · exact ⟨yGrid_sf, yGrid_mu, y_fmul, yGrid_rm, y_mlist, y_rlist, yGrid_ulist⟩
      mulI := ⟨yGrid_sf, yGrid_mu, y_fmul, yGrid_rm, y_mint, y_rint, yGrid_uint⟩
      imul := by
        obtain ⟨cd, h1, h2⟩ := yGrid_mro
        refine ⟨cd, h1, fun c hc => ?_⟩
        rw [h2] at hc
        simp only [List.mem_cons, List.not_mem_nil, or_false] at hc
        rcases hc with rfl | rfl | rfl
        · exact yGrid_ia
        · exact yWheel_ia
        · exact y_io
    }
    sE := ⟨yEven_sub, yEven_sup, ⟨_, w_Even_init⟩⟩
    sX := ⟨yExact_sub, yExact_sup, ⟨_, w_Exact_init⟩⟩
    sL := ⟨yLagging_sub, yLagging_sup, ⟨_, w_Lagging_init⟩⟩
    sG := ⟨yGrid_sub, yGrid_sup, ⟨_, w_Grid_init⟩⟩
    fn := y_feq
    fnS := y_fstr
    ord := fun C hC C2 hC2 => by
      simp only [List.mem_cons, List.not_mem_nil, or_false] at hC hC2
      rcases hC with rfl | rfl | rfl | rfl | rfl <;> rcases hC2 with rfl | rfl | rfl | rfl | rfl
      · exact .inl yWheel_fWheel
      · exact .inr ⟨yWheel_sEven, yWheel_dEven⟩
      · exact .inr ⟨yWheel_sExact, yWheel_dExact⟩
      · exact .inr ⟨yWheel_sLagging, yWheel_dLagging⟩
      · exact .inr ⟨yWheel_sGrid, yWheel_dGrid⟩
      · exact .inl yEven_fWheel
      · exact .inl yEven_fEven
      · exact .inl yEven_fExact
      · exact .inl yEven_fLagging
      · exact .inl yEven_fGrid
      · exact .inl yExact_fWheel
      · exact .inl yExact_fEven
      · exact .inl yExact_fExact
      · exact .inl yExact_fLagging
      · exact .inl yExact_fGrid
      · exact .inl yLagging_fWheel
      · exact .inl yLagging_fEven
      · exact .inl yLagging_fExact
      · exact .inl yLagging_fLagging
      · exact .inl yLagging_fGrid
      · exact .inl yGrid_fWheel
      · exact .inl yGrid_fEven
      · exact .inl yGrid_fExact
      · exact .inl yGrid_fLagging
      · exact .inl yGrid_fGrid
  }
  have B : Caught T := {
    R := C_ReachError
    m_R := PySem.W.mg_of X G x_R
    ex := fun C hC => by
      simp only [List.mem_cons, List.not_mem_nil, or_false] at hC
      rcases hC with rfl | rfl | rfl
      · exact ⟨PySem.W.exm_ref x_Rx x_Rh x_Rt zBadNumber_RC, ⟨zBadNumber_cl, zBadNumber_ga, zBadNumber_gg, zBadNumber_ex, zBadNumber_hd, zBadNumber_ha, x_hn, x_ht, zBadNumber_hm⟩, zBadNumber_kV⟩
      · exact ⟨PySem.W.exm_ref x_Rx x_Rh x_Rt zBadWheel_RC, ⟨zBadWheel_cl, zBadWheel_ga, zBadWheel_gg, zBadWheel_ex, zBadWheel_hd, zBadWheel_ha, x_hn, x_ht, zBadWheel_hm⟩, zBadWheel_kV⟩
      · exact ⟨PySem.W.exm_ref x_Rx x_Rh x_Rt zBadText_RC, ⟨zBadText_cl, zBadText_ga, zBadText_gg, zBadText_ex, zBadText_hd, zBadText_ha, x_hn, x_ht, zBadText_hm⟩, zBadText_kV⟩
    kN := ⟨zBadNumber_kBadNumber, zBadNumber_kBadWheel, zBadNumber_kBadText⟩
    kW := ⟨zBadWheel_kBadNumber, zBadWheel_kBadWheel, zBadWheel_kBadText⟩
    kT := ⟨zBadText_kBadNumber, zBadText_kBadWheel, zBadText_kBadText⟩ }
  have hm1 : (pp_made_right, ("_law_made_right.<locals>.<lambda>" : Str)) ∈ [(pp_made_right, ("_law_made_right.<locals>.<lambda>" : Str)), (pp_read_right, ("_law_read_right.<locals>.<lambda>" : Str))] := .head _
  have hm2 : (pp_read_right, ("_law_read_right.<locals>.<lambda>" : Str)) ∈ [(pp_made_right, ("_law_made_right.<locals>.<lambda>" : Str)), (pp_read_right, ("_law_read_right.<locals>.<lambda>" : Str))] := .tail _ (.head _)
  have hu1 : ∀ p ∈ [(pp_made_right, ("_law_made_right.<locals>.<lambda>" : Str)), (pp_read_right, ("_law_read_right.<locals>.<lambda>" : Str))], p.1 = pp_made_right → p.2 = "_law_made_right.<locals>.<lambda>" := fun p hp e => by
    simp only [List.mem_cons, List.not_mem_nil, or_false] at hp
    rcases hp with rfl | rfl
    · rfl
    · exact absurd e.symm x_pp
  have hu2 : ∀ p ∈ [(pp_made_right, ("_law_made_right.<locals>.<lambda>" : Str)), (pp_read_right, ("_law_read_right.<locals>.<lambda>" : Str))], p.1 = pp_read_right → p.2 = "_law_read_right.<locals>.<lambda>" := fun p hp e => by
    simp only [List.mem_cons, List.not_mem_nil, or_false] at hp
    rcases hp with rfl | rfl
    · exact absurd e x_pp
    · rfl
  refine ⟨[(cc_made_right, pp_made_right), (cc_read_right, pp_read_right)], spLaw K [(pp_made_right, ("_law_made_right.<locals>.<lambda>" : Str)), (pp_read_right, ("_law_read_right.<locals>.<lambda>" : Str))], fun p hp => ?_, fun p hp => ?_, fun p hp => ?_, fun H a ns hl hb tt hS => ⟨a, ns, rfl, hS, hl, fun p hp => ?_, fun _ => rfl⟩, fun base KB NB TBs => ?_⟩
  · simp only [List.mem_cons, List.not_mem_nil, or_false] at hp
    rcases hp with rfl | rfl
    · exact hP_made_right
    · exact hP_read_right
  · simp only [List.mem_cons, List.not_mem_nil, or_false] at hp
    rcases hp with rfl | rfl
    · exact q_made_right
    · exact q_read_right
  · simp only [List.mem_cons, List.not_mem_nil, or_false] at hp
    rcases hp with rfl | rfl
    · exact hd_made_right
    · exact hd_read_right
  · simp only [List.mem_cons, List.not_mem_nil, or_false] at hp
    rcases hp with rfl | rfl
    · exact LamX.TabS.nil (tt (cc_made_right, pp_made_right) (.head _))
    · exact LamX.TabS.nil (tt (cc_read_right, pp_read_right) (.tail _ (.head _)))
  · exact ok_law HP T W B l_made_right c_made_right (TBs (cc_made_right, pp_made_right) (.head _)) hm1 hu1 l_read_right c_read_right (TBs (cc_read_right, pp_read_right) (.tail _ (.head _))) hm2 hu2
end My
open PySem PySem.W PyProof.Rows in
set_option maxRecDepth 100000 in
set_option maxHeartbeats 0 in
theorem PySem.Challenge.cw_wheelreach_k25_wheels_changed_and_writte_holds : PySem.Challenge.rw_wheelreach_k25_wheels_changed_and_writte.Holds := by
  w_on; o_law; k_head; (case hw => w_witness2)
  k_fill
  refine My.walkG (l := PySem.Challenge.rw_wheelreach_k25_wheels_changed_and_writte) (k := 14) ["_law_made_right", "_law_read_right"] (by decide +kernel) rfl rfl ⟨rfl, by decide, by decide⟩ (fun w h Y => PySem.W.km_in_of Y) ?F
  case F =>
    intro w mg fa h KX G hmg tabs
    refine' My.all_mk KX G hmg tabs ?a_is_whole ?l_is_whole ?c_is_whole ?k_is_whole ?a_is_between ?l_is_between ?c_is_between ?k_is_between ?a_number_in ?l_number_in ?c_number_in ?k_number_in ?a_need_part ?l_need_part ?c_need_part ?k_need_part ?a_take_wheel ?l_take_wheel ?c_take_wheel ?k_take_wheel ?a_pen ?l_pen ?c_pen ?k_pen ?a_draw ?l_draw ?c_draw ?k_draw ?a_pick ?l_pick ?c_pick ?k_pick ?a_heard ?l_heard ?c_heard ?k_heard ?a_wheel ?l_wheel ?c_wheel ?k_wheel ?a_of ?l_of ?c_of ?k_of ?a_due ?l_due ?c_due ?k_due ?a_bound ?l_bound ?c_bound ?k_bound ?a_made_right ?l_made_right ?c_made_right ?k_made_right ?a_is_figures ?l_is_figures ?c_is_figures ?k_is_figures ?a_wrong ?l_wrong ?c_wrong ?k_wrong ?a_bent ?l_bent ?c_bent ?k_bent ?a_read_right ?l_read_right ?c_read_right ?k_read_right ?a_law ?l_law ?c_law ?k_law ?a_BadNumber_init ?l_BadNumber_init ?c_BadNumber_init ?k_BadNumber_init ?a_BadWheel_init ?l_BadWheel_init ?c_BadWheel_init ?k_BadWheel_init ?a_BadText_init ?l_BadText_init ?c_BadText_init ?k_BadText_init ?a_Words_init ?l_Words_init ?d_Words_init ?dv1_Words_init ?c_Words_init ?k_Words_init ?a_Words_upcoming ?l_Words_upcoming ?c_Words_upcoming ?k_Words_upcoming ?a_Words_take ?l_Words_take ?c_Words_take ?k_Words_take ?a_Words_take_number ?l_Words_take_number ?c_Words_take_number ?k_Words_take_number ?a_Words_finish ?l_Words_finish ?c_Words_finish ?k_Words_finish ?a_Wheel_init ?l_Wheel_init ?c_Wheel_init ?k_Wheel_init ?a_Wheel_read ?l_Wheel_read ?c_Wheel_read ?k_Wheel_read ?a_Wheel_eq ?l_Wheel_eq ?c_Wheel_eq ?k_Wheel_eq ?a_Wheel_str ?l_Wheel_str ?c_Wheel_str ?k_Wheel_str ?a_Wheel_mul ?l_Wheel_mul ?c_Wheel_mul ?k_Wheel_mul ?a_Wheel_wider ?l_Wheel_wider ?c_Wheel_wider ?k_Wheel_wider ?a_Even_init ?l_Even_init ?c_Even_init ?k_Even_init ?t_Even_init ?p_Even_init ?y_Even_init ?w_Even_init ?a_Exact_init ?l_Exact_init ?c_Exact_init ?k_Exact_init ?t_Exact_init ?p_Exact_init ?y_Exact_init ?w_Exact_init ?a_Lagging_init ?l_Lagging_init ?c_Lagging_init ?k_Lagging_init ?t_Lagging_init ?p_Lagging_init ?y_Lagging_init ?w_Lagging_init ?a_Grid_init ?l_Grid_init ?c_Grid_init ?k_Grid_init ?t_Grid_init ?p_Grid_init ?y_Grid_init ?w_Grid_init ?z_ValueError ?z_abs ?z_bool ?z_enumerate ?z_int ?z_isinstance ?z_len ?z_list ?z_property ?z_range ?z_repr ?z_staticmethod ?z_str ?z_super ?t_made_right ?p_made_right ?q_made_right ?t_read_right ?p_read_right ?q_read_right ?x_R ?x_MP ?x_MD ?x_Wheel ?x_Even ?x_Exact ?x_Lagging ?x_Grid ?x_Words ?x_BadNumber ?x_BadWheel ?x_BadText ?x_pf ?x_pt ?x_any ?x_sT ?x_sF ?x_hn ?x_ht ?x_Rx ?x_Rh ?x_Rt ?zBadNumber_L ?zBadNumber_b ?zBadNumber_sa ?zBadNumber_ex ?zBadNumber_ty ?zBadNumber_k ?zBadNumber_tI ?zBadNumber_cl ?zBadNumber_ga ?zBadNumber_gg ?zBadNumber_hd ?zBadNumber_ha ?zBadNumber_hm ?zBadNumber_RC ?zBadNumber_kV ?zBadNumber_no0 ?zBadNumber_kBadNumber ?zBadNumber_kBadWheel ?zBadNumber_kBadText ?zBadWheel_L ?zBadWheel_b ?zBadWheel_sa ?zBadWheel_ex ?zBadWheel_ty ?zBadWheel_k ?zBadWheel_tI ?zBadWheel_cl ?zBadWheel_ga ?zBadWheel_gg ?zBadWheel_hd ?zBadWheel_ha ?zBadWheel_hm ?zBadWheel_RC ?zBadWheel_kV ?zBadWheel_no0 ?zBadWheel_kBadNumber ?zBadWheel_kBadWheel ?zBadWheel_kBadText ?zBadText_L ?zBadText_b ?zBadText_sa ?zBadText_ex ?zBadText_ty ?zBadText_k ?zBadText_tI ?zBadText_cl ?zBadText_ga ?zBadText_gg ?zBadText_hd ?zBadText_ha ?zBadText_hm ?zBadText_RC ?zBadText_kV ?zBadText_no0 ?zBadText_no1 ?zBadText_kBadNumber ?zBadText_kBadWheel ?zBadText_kBadText ?y_gfalse ?y_gtrue ?y_feq ?y_fstr ?y_fwid ?y_fmul ?y_io ?y_r1 ?y_r2 ?y_mint ?y_rint ?y_mNoneType ?y_rNoneType ?y_mbool ?y_rbool ?y_mstr ?y_rstr ?y_mlist ?y_rlist ?yWheel_cls ?yWheel_n1 ?yWheel_n2 ?yWheel_n3 ?yWheel_con ?yWheel_m1 ?yWheel_m3 ?yWheel_m4 ?yWheel_eq ?yWheel_ne ?yWheel_str ?yWheel_wid ?yWheel_ha ?yWheel_hm ?yWheel_kW ?yWheel_kG ?yWheel_kS ?yWheel_sf ?yWheel_mu ?yWheel_rm ?yWheel_ia ?yWheel_mro ?yWheel_uint ?yWheel_uNoneType ?yWheel_ubool ?yWheel_ustr ?yWheel_ulist ?yWheel_fWheel ?yWheel_sEven ?yWheel_dEven ?yWheel_sExact ?yWheel_dExact ?yWheel_sLagging ?yWheel_dLagging ?yWheel_sGrid ?yWheel_dGrid ?yEven_cls ?yEven_n1 ?yEven_n2 ?yEven_n3 ?yEven_con ?yEven_m1 ?yEven_m3 ?yEven_m4 ?yEven_eq ?yEven_ne ?yEven_str ?yEven_wid ?yEven_ha ?yEven_hm ?yEven_kW ?yEven_kG ?yEven_kS ?yEven_sf ?yEven_mu ?yEven_rm ?yEven_ia ?yEven_mro ?yEven_uint ?yEven_uNoneType ?yEven_ubool ?yEven_ustr ?yEven_ulist ?yEven_fWheel ?yEven_fEven ?yEven_fExact ?yEven_fLagging ?yEven_fGrid ?yEven_sub ?yEven_sup ?yExact_cls ?yExact_n1 ?yExact_n2 ?yExact_n3 ?yExact_con ?yExact_m1 ?yExact_m3 ?yExact_m4 ?yExact_eq ?yExact_ne ?yExact_str ?yExact_wid ?yExact_ha ?yExact_hm ?yExact_kW ?yExact_kG ?yExact_kS ?yExact_sf ?yExact_mu ?yExact_rm ?yExact_ia ?yExact_mro ?yExact_uint ?yExact_uNoneType ?yExact_ubool ?yExact_ustr ?yExact_ulist ?yExact_fWheel ?yExact_fEven ?yExact_fExact ?yExact_fLagging ?yExact_fGrid ?yExact_sub ?yExact_sup ?yLagging_cls ?yLagging_n1 ?yLagging_n2 ?yLagging_n3 ?yLagging_con ?yLagging_m1 ?yLagging_m3 ?yLagging_m4 ?yLagging_eq ?yLagging_ne ?yLagging_str ?yLagging_wid ?yLagging_ha ?yLagging_hm ?yLagging_kW ?yLagging_kG ?yLagging_kS ?yLagging_sf ?yLagging_mu ?yLagging_rm ?yLagging_ia ?yLagging_mro ?yLagging_uint ?yLagging_uNoneType ?yLagging_ubool ?yLagging_ustr ?yLagging_ulist ?yLagging_fWheel ?yLagging_fEven ?yLagging_fExact ?yLagging_fLagging ?yLagging_fGrid ?yLagging_sub ?yLagging_sup ?yGrid_cls ?yGrid_n1 ?yGrid_n2 ?yGrid_n3 ?yGrid_con ?yGrid_m1 ?yGrid_m3 ?yGrid_m4 ?yGrid_eq ?yGrid_ne ?yGrid_str ?yGrid_wid ?yGrid_ha ?yGrid_hm ?yGrid_kW ?yGrid_kG ?yGrid_kS ?yGrid_sf ?yGrid_mu ?yGrid_rm ?yGrid_ia ?yGrid_mro ?yGrid_uint ?yGrid_uNoneType ?yGrid_ubool ?yGrid_ustr ?yGrid_ulist ?yGrid_fWheel ?yGrid_fEven ?yGrid_fExact ?yGrid_fLagging ?yGrid_fGrid ?yGrid_sub ?yGrid_sup ?w_cls ?w_n1 ?w_n2 ?w_n3 ?w_m1 ?w_m3 ?w_m4 ?w_f0 ?w_f1 ?w_f2 ?w_f3 ?x_pp
    (case x_R => k_is)
    (case x_MP => k_is)
    (case x_MD => k_is)
    (case x_Wheel => k_is)
    (case x_Even => k_is)
    (case x_Exact => k_is)
    (case x_Lagging => k_is)
    (case x_Grid => k_is)
    (case x_Words => k_is)
    (case x_BadNumber => k_is)
    (case x_BadWheel => k_is)
    (case x_BadText => k_is)
    (case a_is_whole => k_is)
    (case l_is_whole => k_is)
    (case c_is_whole => k_is)
    (case k_is_whole => k_is)
    (case a_is_between => k_is)
    (case l_is_between => k_is)
    (case c_is_between => k_is)
    (case k_is_between => k_is)
    (case a_number_in => k_is)
    (case l_number_in => k_is)
    (case c_number_in => k_is)
    (case k_number_in => k_is)
    (case a_need_part => k_is)
    (case l_need_part => k_is)
    (case c_need_part => k_is)
    (case k_need_part => k_is)
    (case a_take_wheel => k_is)
    (case l_take_wheel => k_is)
    (case c_take_wheel => k_is)
    (case k_take_wheel => k_is)
    (case a_pen => k_is)
    (case l_pen => k_is)
    (case c_pen => k_is)
    (case k_pen => k_is)
    (case a_draw => k_is)
    (case l_draw => k_is)
    (case c_draw => k_is)
    (case k_draw => k_is)
    (case a_pick => k_is)
    (case l_pick => k_is)
    (case c_pick => k_is)
    (case k_pick => k_is)
    (case a_heard => k_is)
    (case l_heard => k_is)
    (case c_heard => k_is)
    (case k_heard => k_is)
    (case a_wheel => k_is)
    (case l_wheel => k_is)
    (case c_wheel => k_is)
    (case k_wheel => k_is)
    (case a_of => k_is)
    (case l_of => k_is)
    (case c_of => k_is)
    (case k_of => k_is)
    (case a_due => k_is)
    (case l_due => k_is)
    (case c_due => k_is)
    (case k_due => k_is)
    (case a_bound => k_is)
    (case l_bound => k_is)
    (case c_bound => k_is)
    (case k_bound => k_is)
    (case a_made_right => k_is)
    (case l_made_right => k_is)
    (case c_made_right => k_is)
    (case k_made_right => k_is)
    (case a_is_figures => k_is)
    (case l_is_figures => k_is)
    (case c_is_figures => k_is)
    (case k_is_figures => k_is)
    (case a_wrong => k_is)
    (case l_wrong => k_is)
    (case c_wrong => k_is)
    (case k_wrong => k_is)
    (case a_bent => k_is)
    (case l_bent => k_is)
    (case c_bent => k_is)
    (case k_bent => k_is)
    (case a_read_right => k_is)
    (case l_read_right => k_is)
    (case c_read_right => k_is)
    (case k_read_right => k_is)
    (case a_law => k_is)
    (case l_law => k_is)
    (case c_law => k_is)
    (case k_law => k_is)
    (case a_BadNumber_init => k_is)
    (case l_BadNumber_init => k_is)
    (case c_BadNumber_init => k_is)
    (case k_BadNumber_init => k_is)
    (case a_BadWheel_init => k_is)
    (case l_BadWheel_init => k_is)
    (case c_BadWheel_init => k_is)
    (case k_BadWheel_init => k_is)
    (case a_BadText_init => k_is)
    (case l_BadText_init => k_is)
    (case c_BadText_init => k_is)
    (case k_BadText_init => k_is)
    (case a_Words_init => k_is)
    (case l_Words_init => k_is)
    (case d_Words_init => k_is)
    (case dv1_Words_init => exact ⟨_, rfl, .cons ⟨_, rfl⟩ .nil⟩)
    (case c_Words_init => k_is)
    (case k_Words_init => k_is)
    (case a_Words_upcoming => k_is)
    (case l_Words_upcoming => k_is)
    (case c_Words_upcoming => k_is)
    (case k_Words_upcoming => k_is)
    (case a_Words_take => k_is)
    (case l_Words_take => k_is)
    (case c_Words_take => k_is)
    (case k_Words_take => k_is)
    (case a_Words_take_number => k_is)
    (case l_Words_take_number => k_is)
    (case c_Words_take_number => k_is)
    (case k_Words_take_number => k_is)
    (case a_Words_finish => k_is)
    (case l_Words_finish => k_is)
    (case c_Words_finish => k_is)
    (case k_Words_finish => k_is)
    (case a_Wheel_init => k_is)
    (case l_Wheel_init => k_is)
    (case c_Wheel_init => k_is)
    (case k_Wheel_init => k_is)
    (case a_Wheel_read => exact ⟨by k_is, ⟨_, by k_is⟩, by k_is⟩)
    (case l_Wheel_read => k_is)
    (case c_Wheel_read => k_is)
    (case k_Wheel_read => k_is)
    (case a_Wheel_eq => k_is)
    (case l_Wheel_eq => k_is)
    (case c_Wheel_eq => k_is)
    (case k_Wheel_eq => k_is)
    (case a_Wheel_str => k_is)
    (case l_Wheel_str => k_is)
    (case c_Wheel_str => k_is)
    (case k_Wheel_str => k_is)
    (case a_Wheel_mul => k_is)
    (case l_Wheel_mul => k_is)
    (case c_Wheel_mul => k_is)
    (case k_Wheel_mul => k_is)
    (case a_Wheel_wider => k_is)
    (case l_Wheel_wider => k_is)
    (case c_Wheel_wider => k_is)
    (case k_Wheel_wider => k_is)
    (case a_Even_init => k_is)
    (case l_Even_init => k_is)
    (case c_Even_init => k_is)
    (case k_Even_init => k_is)
    (case t_Even_init => k_is)
    (case p_Even_init => first | rfl | k_is | decide +kernel)
    (case y_Even_init => k_is)
    (case w_Even_init => k_is)
    (case a_Exact_init => k_is)
    (case l_Exact_init => k_is)
    (case c_Exact_init => k_is)
    (case k_Exact_init => k_is)
    (case t_Exact_init => k_is)
    (case p_Exact_init => first | rfl | k_is | decide +kernel)
    (case y_Exact_init => k_is)
    (case w_Exact_init => k_is)
    (case a_Lagging_init => k_is)
    (case l_Lagging_init => k_is)
    (case c_Lagging_init => k_is)
    (case k_Lagging_init => k_is)
    (case t_Lagging_init => k_is)
    (case p_Lagging_init => first | rfl | k_is | decide +kernel)
    (case y_Lagging_init => k_is)
    (case w_Lagging_init => k_is)
    (case a_Grid_init => k_is)
    (case l_Grid_init => k_is)
    (case c_Grid_init => k_is)
    (case k_Grid_init => k_is)
    (case t_Grid_init => k_is)
    (case p_Grid_init => first | rfl | k_is | decide +kernel)
    (case y_Grid_init => k_is)
    (case w_Grid_init => k_is)
    (case z_ValueError => k_is)
    (case z_abs => k_is)
    (case z_bool => k_is)
    (case z_enumerate => k_is)
    (case z_int => k_is)
    (case z_isinstance => k_is)
    (case z_len => k_is)
    (case z_list => k_is)
    (case z_property => k_is)
    (case z_range => k_is)
    (case z_repr => k_is)
    (case z_staticmethod => k_is)
    (case z_str => k_is)
    (case z_super => k_is)
    (case t_made_right => k_is)
    (case p_made_right => first | rfl | k_is | decide +kernel)
    (case q_made_right => first | k_is | rfl | decide +kernel)
    (case t_read_right => k_is)
    (case p_read_right => first | rfl | k_is | decide +kernel)
    (case q_read_right => first | k_is | rfl | decide +kernel)
    (case x_pf => first | rfl | decide +kernel)
    (case x_pt => first | rfl | decide +kernel)
    (case x_any => first | k_is | rfl | decide +kernel)
    (case x_sT => first | k_is | rfl | decide +kernel)
    (case x_sF => first | k_is | rfl | decide +kernel)
    (case x_hn => k_is)
    (case x_ht => k_is)
    (case x_Rx => k_is)
    (case x_Rh => k_is)
    (case x_Rt => k_is)
    (case zBadNumber_L => k_is)
    (case zBadNumber_b => first | rfl | decide +kernel)
    (case zBadNumber_sa => k_is)
    (case zBadNumber_ex => k_is)
    (case zBadNumber_ty => k_is)
    (case zBadNumber_k => k_is)
    (case zBadNumber_tI => k_is)
    (case zBadNumber_cl => k_is)
    (case zBadNumber_ga => k_is)
    (case zBadNumber_gg => k_is)
    (case zBadNumber_hd => k_is)
    (case zBadNumber_ha => k_is)
    (case zBadNumber_hm => k_is)
    (case zBadNumber_RC => first | k_is | rfl | decide +kernel)
    (case zBadNumber_kV => first | k_is | rfl | decide +kernel)
    (case zBadNumber_no0 => k_is)
    (case zBadNumber_kBadNumber => first | k_is | rfl | decide +kernel)
    (case zBadNumber_kBadWheel => first | k_is | rfl | decide +kernel)
    (case zBadNumber_kBadText => first | k_is | rfl | decide +kernel)
    (case zBadWheel_L => k_is)
    (case zBadWheel_b => first | rfl | decide +kernel)
    (case zBadWheel_sa => k_is)
    (case zBadWheel_ex => k_is)
    (case zBadWheel_ty => k_is)
    (case zBadWheel_k => k_is)
    (case zBadWheel_tI => k_is)
    (case zBadWheel_cl => k_is)
    (case zBadWheel_ga => k_is)
    (case zBadWheel_gg => k_is)
    (case zBadWheel_hd => k_is)
    (case zBadWheel_ha => k_is)
    (case zBadWheel_hm => k_is)
    (case zBadWheel_RC => first | k_is | rfl | decide +kernel)
    (case zBadWheel_kV => first | k_is | rfl | decide +kernel)
    (case zBadWheel_no0 => k_is)
    (case zBadWheel_kBadNumber => first | k_is | rfl | decide +kernel)
    (case zBadWheel_kBadWheel => first | k_is | rfl | decide +kernel)
    (case zBadWheel_kBadText => first | k_is | rfl | decide +kernel)
    (case zBadText_L => k_is)
    (case zBadText_b => first | rfl | decide +kernel)
    (case zBadText_sa => k_is)
    (case zBadText_ex => k_is)
    (case zBadText_ty => k_is)
    (case zBadText_k => k_is)
    (case zBadText_tI => k_is)
    (case zBadText_cl => k_is)
    (case zBadText_ga => k_is)
    (case zBadText_gg => k_is)
    (case zBadText_hd => k_is)
    (case zBadText_ha => k_is)
    (case zBadText_hm => k_is)
    (case zBadText_RC => first | k_is | rfl | decide +kernel)
    (case zBadText_kV => first | k_is | rfl | decide +kernel)
    (case zBadText_no0 => k_is)
    (case zBadText_no1 => k_is)
    (case zBadText_kBadNumber => first | k_is | rfl | decide +kernel)
    (case zBadText_kBadWheel => first | k_is | rfl | decide +kernel)
    (case zBadText_kBadText => first | k_is | rfl | decide +kernel)
    (case y_gfalse => first | k_is | rfl | decide +kernel)
    (case y_gtrue => first | k_is | rfl | decide +kernel)
    (case y_feq => first | k_is | rfl | decide +kernel)
    (case y_fstr => first | k_is | rfl | decide +kernel)
    (case y_fwid => first | k_is | rfl | decide +kernel)
    (case y_fmul => first | k_is | rfl | decide +kernel)
    (case y_io => first | k_is | rfl | decide +kernel)
    (case y_r1 => first | k_is | rfl | decide +kernel)
    (case y_r2 => first | k_is | rfl | decide +kernel)
    (case y_mint => exact ⟨_, by k_is⟩)
    (case y_rint => exact ⟨_, by k_is⟩)
    (case y_mNoneType => exact ⟨_, by k_is⟩)
    (case y_rNoneType => exact ⟨_, by k_is⟩)
    (case y_mbool => exact ⟨_, by k_is⟩)
    (case y_rbool => exact ⟨_, by k_is⟩)
    (case y_mstr => exact ⟨_, by k_is⟩)
    (case y_rstr => exact ⟨_, by k_is⟩)
    (case y_mlist => exact ⟨_, by k_is⟩)
    (case y_rlist => exact ⟨_, by k_is⟩)
    (case yWheel_cls => exact ⟨by k_is, by k_is, by k_is, by k_is⟩)
    (case yWheel_n1 => show PySem.W.findIn _ _ _ = _; k_is)
    (case yWheel_n2 => show PySem.W.findIn _ _ _ = _; k_is)
    (case yWheel_n3 => show PySem.W.findIn _ _ _ = _; k_is)
    (case yWheel_con => first | k_is | rfl | decide +kernel)
    (case yWheel_m1 => first | k_is | rfl | decide +kernel)
    (case yWheel_m3 => first | k_is | rfl | decide +kernel)
    (case yWheel_m4 => first | k_is | rfl | decide +kernel)
    (case yWheel_eq => first | k_is | rfl | decide +kernel)
    (case yWheel_ne => first | k_is | rfl | decide +kernel)
    (case yWheel_str => first | k_is | rfl | decide +kernel)
    (case yWheel_wid => first | k_is | rfl | decide +kernel)
    (case yWheel_ha => first | k_is | rfl | decide +kernel)
    (case yWheel_hm => first | k_is | rfl | decide +kernel)
    (case yWheel_kW => first | k_is | rfl | decide +kernel)
    (case yWheel_kG => first | k_is | rfl | decide +kernel)
    (case yWheel_kS => first | k_is | rfl | decide +kernel)
    (case yWheel_sf => first | k_is | rfl | decide +kernel)
    (case yWheel_mu => first | k_is | rfl | decide +kernel)
    (case yWheel_rm => first | k_is | rfl | decide +kernel)
    (case yWheel_ia => first | k_is | rfl | decide +kernel)
    (case yWheel_mro => exact ⟨_, by k_is, rfl⟩)
    (case yWheel_uint => first | k_is | rfl | decide +kernel)
    (case yWheel_uNoneType => first | k_is | rfl | decide +kernel)
    (case yWheel_ubool => first | k_is | rfl | decide +kernel)
    (case yWheel_ustr => first | k_is | rfl | decide +kernel)
    (case yWheel_ulist => first | k_is | rfl | decide +kernel)
    (case yWheel_fWheel => first | k_is | rfl | decide +kernel)
    (case yWheel_sEven => first | k_is | rfl | decide +kernel)
    (case yWheel_dEven => first | k_is | rfl | decide +kernel)
    (case yWheel_sExact => first | k_is | rfl | decide +kernel)
    (case yWheel_dExact => first | k_is | rfl | decide +kernel)
    (case yWheel_sLagging => first | k_is | rfl | decide +kernel)
    (case yWheel_dLagging => first | k_is | rfl | decide +kernel)
    (case yWheel_sGrid => first | k_is | rfl | decide +kernel)
    (case yWheel_dGrid => first | k_is | rfl | decide +kernel)
    (case yEven_cls => exact ⟨by k_is, by k_is, by k_is, by k_is⟩)
    (case yEven_n1 => show PySem.W.findIn _ _ _ = _; k_is)
    (case yEven_n2 => show PySem.W.findIn _ _ _ = _; k_is)
    (case yEven_n3 => show PySem.W.findIn _ _ _ = _; k_is)
    (case yEven_con => first | k_is | rfl | decide +kernel)
    (case yEven_m1 => first | k_is | rfl | decide +kernel)
    (case yEven_m3 => first | k_is | rfl | decide +kernel)
    (case yEven_m4 => first | k_is | rfl | decide +kernel)
    (case yEven_eq => first | k_is | rfl | decide +kernel)
    (case yEven_ne => first | k_is | rfl | decide +kernel)
    (case yEven_str => first | k_is | rfl | decide +kernel)
    (case yEven_wid => first | k_is | rfl | decide +kernel)
    (case yEven_ha => first | k_is | rfl | decide +kernel)
    (case yEven_hm => first | k_is | rfl | decide +kernel)
    (case yEven_kW => first | k_is | rfl | decide +kernel)
    (case yEven_kG => first | k_is | rfl | decide +kernel)
    (case yEven_kS => first | k_is | rfl | decide +kernel)
    (case yEven_sf => first | k_is | rfl | decide +kernel)
    (case yEven_mu => first | k_is | rfl | decide +kernel)
    (case yEven_rm => first | k_is | rfl | decide +kernel)
    (case yEven_ia => first | k_is | rfl | decide +kernel)
    (case yEven_mro => exact ⟨_, by k_is, rfl⟩)
    (case yEven_uint => first | k_is | rfl | decide +kernel)
    (case yEven_uNoneType => first | k_is | rfl | decide +kernel)
    (case yEven_ubool => first | k_is | rfl | decide +kernel)
    (case yEven_ustr => first | k_is | rfl | decide +kernel)
    (case yEven_ulist => first | k_is | rfl | decide +kernel)
    (case yEven_fWheel => first | k_is | rfl | decide +kernel)
    (case yEven_fEven => first | k_is | rfl | decide +kernel)
    (case yEven_fExact => first | k_is | rfl | decide +kernel)
    (case yEven_fLagging => first | k_is | rfl | decide +kernel)
    (case yEven_fGrid => first | k_is | rfl | decide +kernel)
    (case yEven_sub => first | k_is | rfl | decide +kernel)
    (case yEven_sup => first | k_is | rfl | decide +kernel)
    (case yExact_cls => exact ⟨by k_is, by k_is, by k_is, by k_is⟩)
    (case yExact_n1 => show PySem.W.findIn _ _ _ = _; k_is)
    (case yExact_n2 => show PySem.W.findIn _ _ _ = _; k_is)
    (case yExact_n3 => show PySem.W.findIn _ _ _ = _; k_is)
    (case yExact_con => first | k_is | rfl | decide +kernel)
    (case yExact_m1 => first | k_is | rfl | decide +kernel)
    (case yExact_m3 => first | k_is | rfl | decide +kernel)
    (case yExact_m4 => first | k_is | rfl | decide +kernel)
    (case yExact_eq => first | k_is | rfl | decide +kernel)
    (case yExact_ne => first | k_is | rfl | decide +kernel)
    (case yExact_str => first | k_is | rfl | decide +kernel)
    (case yExact_wid => first | k_is | rfl | decide +kernel)
    (case yExact_ha => first | k_is | rfl | decide +kernel)
    (case yExact_hm => first | k_is | rfl | decide +kernel)
    (case yExact_kW => first | k_is | rfl | decide +kernel)
    (case yExact_kG => first | k_is | rfl | decide +kernel)
    (case yExact_kS => first | k_is | rfl | decide +kernel)
    (case yExact_sf => first | k_is | rfl | decide +kernel)
    (case yExact_mu => first | k_is | rfl | decide +kernel)
    (case yExact_rm => first | k_is | rfl | decide +kernel)
    (case yExact_ia => first | k_is | rfl | decide +kernel)
    (case yExact_mro => exact ⟨_, by k_is, rfl⟩)
    (case yExact_uint => first | k_is | rfl | decide +kernel)
    (case yExact_uNoneType => first | k_is | rfl | decide +kernel)
    (case yExact_ubool => first | k_is | rfl | decide +kernel)
    (case yExact_ustr => first | k_is | rfl | decide +kernel)
    (case yExact_ulist => first | k_is | rfl | decide +kernel)
    (case yExact_fWheel => first | k_is | rfl | decide +kernel)
    (case yExact_fEven => first | k_is | rfl | decide +kernel)
    (case yExact_fExact => first | k_is | rfl | decide +kernel)
    (case yExact_fLagging => first | k_is | rfl | decide +kernel)
    (case yExact_fGrid => first | k_is | rfl | decide +kernel)
    (case yExact_sub => first | k_is | rfl | decide +kernel)
    (case yExact_sup => first | k_is | rfl | decide +kernel)
    (case yLagging_cls => exact ⟨by k_is, by k_is, by k_is, by k_is⟩)
    (case yLagging_n1 => show PySem.W.findIn _ _ _ = _; k_is)
    (case yLagging_n2 => show PySem.W.findIn _ _ _ = _; k_is)
    (case yLagging_n3 => show PySem.W.findIn _ _ _ = _; k_is)
    (case yLagging_con => first | k_is | rfl | decide +kernel)
    (case yLagging_m1 => first | k_is | rfl | decide +kernel)
    (case yLagging_m3 => first | k_is | rfl | decide +kernel)
    (case yLagging_m4 => first | k_is | rfl | decide +kernel)
    (case yLagging_eq => first | k_is | rfl | decide +kernel)
    (case yLagging_ne => first | k_is | rfl | decide +kernel)
    (case yLagging_str => first | k_is | rfl | decide +kernel)
    (case yLagging_wid => first | k_is | rfl | decide +kernel)
    (case yLagging_ha => first | k_is | rfl | decide +kernel)
    (case yLagging_hm => first | k_is | rfl | decide +kernel)
    (case yLagging_kW => first | k_is | rfl | decide +kernel)
    (case yLagging_kG => first | k_is | rfl | decide +kernel)
    (case yLagging_kS => first | k_is | rfl | decide +kernel)
    (case yLagging_sf => first | k_is | rfl | decide +kernel)
    (case yLagging_mu => first | k_is | rfl | decide +kernel)
    (case yLagging_rm => first | k_is | rfl | decide +kernel)
    (case yLagging_ia => first | k_is | rfl | decide +kernel)
    (case yLagging_mro => exact ⟨_, by k_is, rfl⟩)
    (case yLagging_uint => first | k_is | rfl | decide +kernel)
    (case yLagging_uNoneType => first | k_is | rfl | decide +kernel)
    (case yLagging_ubool => first | k_is | rfl | decide +kernel)
    (case yLagging_ustr => first | k_is | rfl | decide +kernel)
    (case yLagging_ulist => first | k_is | rfl | decide +kernel)
    (case yLagging_fWheel => first | k_is | rfl | decide +kernel)
    (case yLagging_fEven => first | k_is | rfl | decide +kernel)
    (case yLagging_fExact => first | k_is | rfl | decide +kernel)
    (case yLagging_fLagging => first | k_is | rfl | decide +kernel)
    (case yLagging_fGrid => first | k_is | rfl | decide +kernel)
    (case yLagging_sub => first | k_is | rfl | decide +kernel)
    (case yLagging_sup => first | k_is | rfl | decide +kernel)
    (case yGrid_cls => exact ⟨by k_is, by k_is, by k_is, by k_is⟩)
    (case yGrid_n1 => show PySem.W.findIn _ _ _ = _; k_is)
    (case yGrid_n2 => show PySem.W.findIn _ _ _ = _; k_is)
    (case yGrid_n3 => show PySem.W.findIn _ _ _ = _; k_is)
    (case yGrid_con => first | k_is | rfl | decide +kernel)
    (case yGrid_m1 => first | k_is | rfl | decide +kernel)
    (case yGrid_m3 => first | k_is | rfl | decide +kernel)
    (case yGrid_m4 => first | k_is | rfl | decide +kernel)
    (case yGrid_eq => first | k_is | rfl | decide +kernel)
    (case yGrid_ne => first | k_is | rfl | decide +kernel)
    (case yGrid_str => first | k_is | rfl | decide +kernel)
    (case yGrid_wid => first | k_is | rfl | decide +kernel)
    (case yGrid_ha => first | k_is | rfl | decide +kernel)
    (case yGrid_hm => first | k_is | rfl | decide +kernel)
    (case yGrid_kW => first | k_is | rfl | decide +kernel)
    (case yGrid_kG => first | k_is | rfl | decide +kernel)
    (case yGrid_kS => first | k_is | rfl | decide +kernel)
    (case yGrid_sf => first | k_is | rfl | decide +kernel)
    (case yGrid_mu => first | k_is | rfl | decide +kernel)
    (case yGrid_rm => first | k_is | rfl | decide +kernel)
    (case yGrid_ia => first | k_is | rfl | decide +kernel)
    (case yGrid_mro => exact ⟨_, by k_is, rfl⟩)
    (case yGrid_uint => first | k_is | rfl | decide +kernel)
    (case yGrid_uNoneType => first | k_is | rfl | decide +kernel)
    (case yGrid_ubool => first | k_is | rfl | decide +kernel)
    (case yGrid_ustr => first | k_is | rfl | decide +kernel)
    (case yGrid_ulist => first | k_is | rfl | decide +kernel)
    (case yGrid_fWheel => first | k_is | rfl | decide +kernel)
    (case yGrid_fEven => first | k_is | rfl | decide +kernel)
    (case yGrid_fExact => first | k_is | rfl | decide +kernel)
    (case yGrid_fLagging => first | k_is | rfl | decide +kernel)
    (case yGrid_fGrid => first | k_is | rfl | decide +kernel)
    (case yGrid_sub => first | k_is | rfl | decide +kernel)
    (case yGrid_sup => first | k_is | rfl | decide +kernel)
    (case w_cls => exact ⟨by k_is, by k_is, by k_is, by k_is⟩)
    (case w_n1 => show PySem.W.findIn _ _ _ = _; k_is)
    (case w_n2 => show PySem.W.findIn _ _ _ = _; k_is)
    (case w_n3 => show PySem.W.findIn _ _ _ = _; k_is)
    (case w_m1 => first | k_is | rfl | decide +kernel)
    (case w_m3 => first | k_is | rfl | decide +kernel)
    (case w_m4 => first | k_is | rfl | decide +kernel)
    (case w_f0 => first | k_is | rfl | decide +kernel)
    (case w_f1 => first | k_is | rfl | decide +kernel)
    (case w_f2 => first | k_is | rfl | decide +kernel)
    (case w_f3 => first | k_is | rfl | decide +kernel)
    (case x_pp => decide)
