import PyProof.Rows.All
import Wide.All
import OpenK.AllK
import Wide.FinOn
import HandS.Walk
import KE.DatumOrd
import KE.KDictZip
import KE.GoesMore
import HandS.ForMost
import HandS.ForExc
import HandS.Star
import HandS.Gcd
import HandS.Wide
import HandS.IsInst
import HandS.Style
import HandS.Codes
import HandS.Sort
import HandS.TupAny
import HandS.OwnEq
import HandS.ClsMeth
import HandS.MakeKw
import HandS.MakeKwOnly
import HandS.IterVal
import HandS.Lambda
import KE.KOwnIter
import HandS.EndTab
import KE.KExcIs
import KE.DataMinMax
import HandS.AnyAll
import HandS.Zip
import HandS.Property
import HandS.ExcInit
import HandS.ExcIs
import HandS.WordsExc
import KE.KSuper
import HandS.FStr
import HandS.Text
import HandS.StrMore
import PySem.Challenge.RW_wheelreach_k22_wheels_made_and_refused
set_option Elab.async false
set_option linter.all false
set_option maxRecDepth 100000
set_option maxHeartbeats 4000000
/-! Numbers: divisors, multiples, remainders put together, as plain functions, and what holds of them. -/
namespace NM

/-! ### common, multiple -/
def gcdL (ns : List Int) : Nat := ns.foldl (fun g n => Nat.gcd g n.natAbs) 0
def lcmL (ns : List Int) : Nat := ns.foldl (fun g n => Nat.lcm g n.natAbs) 1
theorem gcdL_snoc (l : List Int) (z : Int) : gcdL (l ++ [z]) = Nat.gcd (gcdL l) z.natAbs := by
  unfold gcdL; rw [List.foldl_append]; rfl
theorem lcmL_snoc (l : List Int) (z : Int) : lcmL (l ++ [z]) = Nat.lcm (lcmL l) z.natAbs := by
  unfold lcmL; rw [List.foldl_append]; rfl
theorem take_snoc {α : Type} : ∀ {l : List α} {i : Nat} {x : α}, l[i]? = some x → l.take (i + 1) = l.take i ++ [x]
  | [], i, x, h => by simp at h
  | a :: l, 0, x, h => by
    have e : a = x := Option.some.inj h
    subst e
    rfl
  | a :: l, i + 1, x, h => by
    have ih := take_snoc (l := l) (i := i) (x := x) h
    show a :: l.take (i + 1) = a :: l.take i ++ [x]
    rw [ih]
    rfl
theorem lcm_step {f n : Int} (hf : 0 < f) (hn : 0 < n) : f / ((Nat.gcd f.natAbs n.natAbs : Nat) : Int) * n = ((Nat.lcm f.natAbs n.natAbs : Nat) : Int) := by
  obtain ⟨a, rfl⟩ : ∃ a : Nat, f = (a : Int) := ⟨f.toNat, by omega⟩
  obtain ⟨b, rfl⟩ : ∃ b : Nat, n = (b : Int) := ⟨n.toNat, by omega⟩
  simp only [Int.natAbs_natCast]
  have h := Nat.gcd_dvd_left a b
  rw [← Int.natCast_ediv, ← Int.natCast_mul]
  congr 1
  unfold Nat.lcm
  rw [Nat.mul_comm (a / _) b, Nat.mul_comm a b, Nat.mul_div_assoc _ h]
theorem lcmL_pos {l : List Int} (h : ∀ z ∈ l, 0 < z) : 0 < lcmL l := by
  unfold lcmL
  suffices ∀ (l : List Int) (a : Nat), 0 < a → (∀ z ∈ l, 0 < z) → 0 < l.foldl (fun g n => Nat.lcm g n.natAbs) a from this l 1 (by decide) h
  intro l
  induction l with
  | nil => intro a ha _; exact ha
  | cons z l ih =>
    intro a ha h
    refine ih _ ?_ (fun y hy => h y (List.mem_cons_of_mem _ hy))
    have hz := h z List.mem_cons_self
    exact Nat.lcm_pos ha (by omega)
theorem lcm_le_mul {a b : Nat} (ha : 0 < a) (hb : 0 < b) : Nat.lcm a b ≤ a * b := Nat.le_of_dvd (Nat.mul_pos ha hb) (Nat.lcm_dvd_mul a b)

/-! ### how far from a multiple -/
def apartI (d p : Int) : Int := if p - d % p < d % p then p - d % p else d % p
theorem apart_nn {d p : Int} (hp : 0 < p) : 0 ≤ apartI d p := by
  unfold apartI
  have h1 := Int.emod_nonneg d (show p ≠ 0 by omega)
  have h2 := Int.emod_lt_of_pos d hp
  split <;> omega
theorem apart_half {d p : Int} (hp : 0 < p) : 2 * apartI d p ≤ p := by
  unfold apartI
  have h1 := Int.emod_nonneg d (show p ≠ 0 by omega)
  have h2 := Int.emod_lt_of_pos d hp
  split <;> omega
/-- the nearest multiple is that far away -/
theorem apart_at {d p : Int} (hp : 0 < p) : ∃ k, d = p * k + apartI d p ∨ d = p * k - apartI d p := by
  have e := Int.mul_ediv_add_emod d p
  unfold apartI
  split
  · refine ⟨d / p + 1, .inr ?_⟩
    rw [Int.mul_add]; omega
  · exact ⟨d / p, .inl (by omega)⟩
/-- no multiple is nearer -/
theorem apart_le {d p : Int} (hp : 0 < p) (k a : Int) (h : d = p * k + a) : apartI d p ≤ (a.natAbs : Int) := by
  have e1 : d % p = a % p := by rw [h, Int.add_comm, Int.add_mul_emod_self_left]
  have h1 := Int.emod_nonneg a (show p ≠ 0 by omega)
  have h2 := Int.emod_lt_of_pos a hp
  have e := Int.mul_ediv_add_emod a p
  unfold apartI
  rw [e1]
  by_cases h0 : 0 ≤ a
  · have : a % p ≤ a := by
      have : 0 ≤ a / p := Int.ediv_nonneg h0 (by omega)
      have := Int.mul_nonneg (show 0 ≤ p by omega) this
      omega
    split <;> omega
  · have hq : a / p ≤ -1 := by
      have := Int.ediv_lt_of_lt_mul hp (show a < 0 * p by omega)
      omega
    have : p * (a / p) ≤ p * (-1) := Int.mul_le_mul_of_nonneg_left hq (by omega)
    split <;> omega
theorem apart_neg {d p : Int} (hp : 0 < p) : apartI (-d) p = apartI d p := by
  have aux : ∀ x : Int, apartI (-x) p ≤ apartI x p := fun x => by
    obtain ⟨k, h | h⟩ := apart_at (d := x) hp
    · have := apart_le (d := -x) hp (-k) (-apartI x p) (by rw [Int.mul_neg]; omega)
      have := apart_nn (d := x) hp
      omega
    · have := apart_le (d := -x) hp (-k) (apartI x p) (by rw [Int.mul_neg]; omega)
      have := apart_nn (d := x) hp
      omega
  have h1 := aux d
  have h2 := aux (-d)
  rw [Int.neg_neg] at h2
  omega
theorem apart_round {d p : Int} (hp : 0 < p) (k : Int) : apartI (d + p * k) p = apartI d p := by
  unfold apartI
  rw [Int.add_mul_emod_self_left]
theorem apart_tri {d e p : Int} (hp : 0 < p) : apartI (d + e) p ≤ apartI d p + apartI e p := by
  have n1 := apart_nn (d := d) hp
  have n2 := apart_nn (d := e) hp
  obtain ⟨k, h⟩ := apart_at (d := d) hp
  obtain ⟨l, g⟩ := apart_at (d := e) hp
  have fin : ∀ a : Int, d + e = p * (k + l) + a → (a.natAbs : Int) ≤ apartI d p + apartI e p → apartI (d + e) p ≤ apartI d p + apartI e p := fun a ha hb =>
    Int.le_trans (apart_le hp (k + l) a ha) hb
  have ex : p * (k + l) = p * k + p * l := Int.mul_add _ _ _
  rcases h with h | h <;> rcases g with g | g
  · exact fin (apartI d p + apartI e p) (by rw [ex]; omega) (by omega)
  · exact fin (apartI d p - apartI e p) (by rw [ex]; omega) (by omega)
  · exact fin (-apartI d p + apartI e p) (by rw [ex]; omega) (by omega)
  · exact fin (-apartI d p - apartI e p) (by rw [ex]; omega) (by omega)
theorem apart_mult {p k : Int} (hp : 0 < p) : apartI (p * k) p = 0 := by
  unfold apartI
  rw [Int.mul_emod_right]
  split <;> omega
theorem apart_self {p : Int} (hp : 0 < p) : apartI p p = 0 := by
  have h := apart_mult (k := 1) hp
  rwa [Int.mul_one] at h
theorem apart_reach {d p : Int} (hp : 0 < p) : apartI (d - apartI d p) p = 0 ∨ apartI (d + apartI d p) p = 0 := by
  obtain ⟨k, h | h⟩ := apart_at (d := d) hp
  · left
    have e : d - apartI d p = p * k := by omega
    rw [e]; exact apart_mult hp
  · right
    have e : d + apartI d p = p * k := by omega
    rw [e]; exact apart_mult hp

theorem gcd_emod (a b : Int) : Int.gcd (a % b) b = Int.gcd a b := by
  have e := Int.mul_ediv_add_emod a b
  have h : a % b = a - a / b * b := by rw [Int.mul_comm]; omega
  rw [h]; exact Int.gcd_sub_mul_right_left _ _ _
/-! ### the inverse, by Euclid's division -/
structure Euc (number divisor left right found following : Int) : Prop where
  l : 0 < left
  r : 0 ≤ right
  rl : right < left ∨ left = divisor
  le : left ≤ divisor
  rd : right < divisor
  g : Nat.gcd left.natAbs right.natAbs = Nat.gcd divisor.natAbs number.natAbs
  c1 : divisor ∣ found * number - left
  c2 : divisor ∣ following * number - right
  s : (found ≤ 0 ∧ 0 ≤ following ∧ left * following - right * found = divisor) ∨ (0 ≤ found ∧ following ≤ 0 ∧ right * found - left * following = divisor)
theorem Euc.start {number divisor : Int} (hd : 0 < divisor) : Euc number divisor divisor (number % divisor) 0 1 where
  l := hd
  r := Int.emod_nonneg _ (by omega)
  rl := .inr rfl
  le := Int.le_refl _
  rd := Int.emod_lt_of_pos _ hd
  g := by
    have e := Int.mul_ediv_add_emod number divisor
    have h : ((Nat.gcd divisor.natAbs (number % divisor).natAbs : Nat) : Int) = ((Nat.gcd divisor.natAbs number.natAbs : Nat) : Int) := by
      show ((Int.gcd divisor (number % divisor) : Nat) : Int) = ((Int.gcd divisor number : Nat) : Int)
      congr 1
      rw [Int.gcd_comm, Int.gcd_comm divisor number]
      exact gcd_emod _ _
    exact Int.natCast_inj.mp h
  c1 := ⟨-1, by omega⟩
  c2 := by
    have e := Int.mul_ediv_add_emod number divisor
    exact ⟨number / divisor, by omega⟩
  s := .inl ⟨Int.le_refl _, by omega, by omega⟩
theorem Euc.turn {number divisor left right found following : Int} (E : Euc number divisor left right found following) (h : right ≠ 0) :
    Euc number divisor right (left - left / right * right) following (found - left / right * following) := by
  have hr : 0 < right := by have := E.r; omega
  have e := Int.mul_ediv_add_emod left right
  have em : left - left / right * right = left % right := by rw [Int.mul_comm]; omega
  have h1 := Int.emod_nonneg left (show right ≠ 0 by omega)
  have h2 := Int.emod_lt_of_pos left hr
  have hq : 0 ≤ left / right := Int.ediv_nonneg (Int.le_of_lt E.l) (by omega)
  have lrd := E.rd
  refine ⟨hr, by omega, .inl (by omega), by omega, by omega, ?_, E.c2, ?_, ?_⟩
  · rw [← E.g, em]
    show Int.gcd right (left % right) = Int.gcd left right
    rw [Int.gcd_comm]
    exact gcd_emod _ _
  · obtain ⟨a, ha⟩ := E.c1
    obtain ⟨b, hb⟩ := E.c2
    refine ⟨a - left / right * b, ?_⟩
    rw [Int.sub_mul, Int.mul_sub]
    have x1 : left / right * following * number = left / right * (following * number) := Int.mul_assoc _ _ _
    have x2 : divisor * (left / right * b) = left / right * (divisor * b) := by rw [← Int.mul_assoc, Int.mul_comm divisor, Int.mul_assoc]
    rw [x1, x2, ← hb, ← ha, Int.mul_sub]
    omega
  · have hm : ∀ x : Int, 0 ≤ x → 0 ≤ left / right * x := fun x hx => Int.mul_nonneg hq hx
    have hn : ∀ x : Int, x ≤ 0 → left / right * x ≤ 0 := fun x hx => by
      have := Int.mul_nonneg hq (show 0 ≤ -x by omega)
      rw [Int.mul_neg] at this
      omega
    have y1 : right * (found - left / right * following) = right * found - right * (left / right * following) := Int.mul_sub _ _ _
    have y2 : (left - left / right * right) * following = left * following - left / right * right * following := Int.sub_mul _ _ _
    have y3 : left / right * right * following = right * (left / right * following) := by rw [Int.mul_comm (left / right) right, Int.mul_assoc]
    rcases E.s with ⟨s1, s2, s3⟩ | ⟨s1, s2, s3⟩
    · refine .inr ⟨s2, by have := hm _ s2; omega, ?_⟩
      rw [y1, y2, y3]; omega
    · refine .inl ⟨s2, by have := hn _ s2; omega, ?_⟩
      rw [y1, y2, y3]; omega
theorem Euc.less {number divisor left right found following : Int} (E : Euc number divisor left right found following) (h : right ≠ 0) : (left - left / right * right).toNat < right.toNat := by
  have hr : 0 < right := by have := E.r; omega
  have e := Int.mul_ediv_add_emod left right
  have em : left - left / right * right = left % right := by rw [Int.mul_comm]; omega
  have h1 := Int.emod_nonneg left (show right ≠ 0 by omega)
  have h2 := Int.emod_lt_of_pos left hr
  omega
/-- the sizes -/
theorem Euc.size {number divisor left right found following : Int} (E : Euc number divisor left right found following) : following.natAbs ≤ divisor.natAbs ∧ (right ≠ 0 → found.natAbs ≤ divisor.natAbs) := by
  have l := E.l
  have r := E.r
  have key : ∀ a b c e : Int, 0 < a → 0 ≤ b → 0 ≤ c → 0 ≤ e → a * c + b * e = divisor → c ≤ divisor ∧ (b ≠ 0 → e ≤ divisor) := fun a b c e ha hb hc he h => by
    have p1 := Int.mul_nonneg hb he
    have p2 : c ≤ a * c := by
      have := Int.mul_le_mul_of_nonneg_right (show 1 ≤ a by omega) hc
      omega
    refine ⟨by omega, fun hb0 => ?_⟩
    have p3 : e ≤ b * e := by
      have := Int.mul_le_mul_of_nonneg_right (show 1 ≤ b by omega) he
      omega
    have p4 := Int.mul_nonneg (Int.le_of_lt ha) hc
    omega
  rcases E.s with ⟨s1, s2, s3⟩ | ⟨s1, s2, s3⟩
  · have k := key left right following (-found) l r s2 (by omega) (by rw [Int.mul_neg]; omega)
    exact ⟨by omega, fun h => by have := k.2 h; omega⟩
  · have k := key left right (-following) found l r (by omega) s1 (by rw [Int.mul_neg]; omega)
    exact ⟨by omega, fun h => by have := k.2 h; omega⟩
theorem Euc.fin {number divisor left found following : Int} (E : Euc number divisor left 0 found following) (hg : Nat.gcd divisor.natAbs number.natAbs = 1) : divisor ∣ found * number - 1 := by
  have g := E.g
  rw [hg] at g
  have l := E.l
  have : left = 1 := by
    simp at g
    omega
  have c := E.c1
  rwa [this] at c
end NM

namespace My
open PySem PySem.Spec PyProof.Rows L2
section
/-! ### a method that ends in super().__init__(..) -/
/-- names of a method whose one free name is the class -/
structure SupScope (N ps : List Str) (sc : Scope) : Prop where
  kind : sc.kind = .function
  co : sc.isCoroutine = false
  gen : sc.isGenerator = false
  nd : N.Nodup
  pre : N.take ps.length = ps
  par : ∀ x ∈ ps, sc.names.lookup x = some .local
  nocell : ∀ y ∈ sc.names, y.2 ≠ .cell
  free : ∀ y ∈ sc.names, y.2 = .free → y.1 = "__class__"
/-- the context of such a method's body -/
def cxS (CX : CXT) (P : Program) (w : World) (K : PySem.W.Frag) (mg : Str → Option Value) (base : Heap) (N : List Str) (qual : Str) (scope : Scope) (f : Addr) (cd : Value) (cc : Addr) (A : Around) (outer : List Env) (s : Shared) (H : Hp) (E : XK) : Cx where
  prog := P
  w := w
  K := K
  mg := mg
  base := base
  A := A.deeper (PySem.W.ksEnv qual scope s.heap.objs.size f cd cc)
  N := N
  s_0 := s
  H_0 := H
  env := PySem.W.ksEnv qual scope s.heap.objs.size f cd cc
  outer := outer
  stack := PySem.W.ksEnv qual scope s.heap.objs.size f cd cc :: outer
  ex := []
  calm := true
  fn := fun _ => false
  pn := []
  xe := fun e s' => wpAny (model P w) (A.deeper (PySem.W.ksEnv qual scope s.heap.objs.size f cd cc)) (leaving (PySem.W.ksEnv qual scope s.heap.objs.size f cd cc) e) (fun _ s'' => CX outer H s E e s'') (fun e' s'' => CX outer H s E e' s'') s'
theorem look_nd {x : Str} {u : Value} : ∀ {l : List (Str × Value)}, (l.map (·.1)).Nodup → (x, u) ∈ l → l.lookup x = some u
  | [], _, h => by cases h
  | (y, v) :: l, nd, h => by
    rw [List.map_cons] at nd
    obtain ⟨n1, n2⟩ := List.nodup_cons.mp nd
    rcases List.mem_cons.mp h with e | e
    · cases e
      exact List.lookup_cons_self
    · have ne : (x == y) = false := by
        rw [beq_eq_false_iff_ne]
        rintro rfl
        exact n1 (List.mem_map.mpr ⟨_, e, rfl⟩)
      rw [List.lookup_cons, ne]
      exact look_nd n2 e
theorem base_at {X : Cx} {pins : List (Addr × Obj)} {σ : L2.St} {H : Hp} {s : Shared} {a : Addr} {o : Obj} (I : Inv X pins σ H s) (e : X.K.lookup a = some o) : s.heap.get? a = some o := I.kIn _ _ e
theorem inv_sup {CX : CXT} {P : Program} {w : World} {K : PySem.W.Frag} {mg : Str → Option Value} {base : Heap} {N ps : List Str} {qual : Str} {scope : Scope} {f cc : Addr} {cd : Value} {A : Around} {outer : List Env} {s : Shared} {h1 : Heap} {t1 : Nat} {H : Hp} {E : XK} {us : List Value} {vs : List V} {oc : Obj} {v0 : Option Value}
    (S : SupScope N ps scope) (hd : A.handled = none) (e0 : Env0 P w K mg base A outer s H) (hl : vs.length = ps.length) (r : Vals vs us) (hcc : K.lookup cc = some oc) (hoc : oc.data = .cell v0)
    (hns : h1.Ns s.heap.objs.size (fun x => (ps.zip us).reverse.lookup x)) (hk : ∀ b o, s.heap.get? b = some o → h1.get? b = some o) :
    Inv (cxS CX P w K mg base N qual scope f cd cc A outer s H E) [] (start N vs) H { s with heap := h1, toks := t1 } := by
  have hpl : ps.length ≤ N.length := by have := congrArg List.length S.pre; rw [List.length_take] at this; omega
  have noA : ∀ b : Addr, b ∉ (cxS CX P w K mg base N qual scope f cd cc A outer s H E).ex := fun b z => absurd (show b ∈ ([] : List Addr) from z) (by simp)
  have cl : ∀ (y : Str) (c : Addr), (cxS CX P w K mg base N qual scope f cd cc A outer s H E).env.cells.lookup y = some c → y = "__class__" ∧ c = cc := fun y c h => by
    have h : ([("__class__", cc)] : List (Str × Addr)).lookup y = some c := h
    rw [List.lookup_cons] at h
    cases e : (y == ("__class__" : Str)) with
    | true =>
      rw [e] at h
      cases h
      exact ⟨eq_of_beq e, rfl⟩
    | false => rw [e] at h; cases h
  have bc : base.get? cc = some oc := e0.mod.kin _ _ hcc
  have sc' := e0.bs _ _ bc
  refine ⟨⟨e0.mod, S.kind, rfl, rfl, Nat.le_refl _, fun y z c a b => ?_, fun y hy => ?_, fun y c z => (nomatch z), fun _ => hd, Around.frames_deeper e0.frames, .inr ⟨rfl, rfl⟩, fun b z => absurd z (noA b), e0.bs, e0.bsz, fun b _ _ => noA b, fun b z => absurd z (noA b), e0.funs, e0.frf⟩,
    rfl, e0.bare, Un.kept hk, ⟨_, hns, fun i y v h1 h2 h3 => ?_⟩, fun y c h => ?_, e0.hok.fresh (Nat.le_refl _), fun y c h => ?_, fun p hp => absurd (show p ∈ ([] : List (Addr × Obj)) from hp) (by simp), e0.hok.kept hk, ?_⟩
  · rw [(cl y c a).1, (cl z c b).1]
  · have hy : scope.names.lookup y = some .cell ∨ scope.names.lookup y = some .free := hy
    rcases hy with hy | hy
    · exact absurd rfl (S.nocell _ (PySem.mem_of_lookup hy))
    · have := S.free _ (PySem.mem_of_lookup hy) rfl
      dsimp only at this
      subst this
      exact ⟨cc, rfl⟩
  · have hi : i < vs.length := by
      unfold L2.start at h2
      by_cases hi : i < vs.length
      · exact hi
      · rw [List.getElem?_append_right (by simpa using hi)] at h2
        rw [List.getElem?_replicate] at h2
        split at h2 <;> cases h2
    have ha : vs[i]? = some v := by
      unfold L2.start at h2
      rw [List.getElem?_append_left (by simpa using hi), List.getElem?_map] at h2
      cases e : vs[i]? with
      | none => rw [e] at h2; cases h2
      | some a => rw [e] at h2; cases h2; rfl
    obtain ⟨u, hu, rv⟩ := r.get ha
    have hp : ps[i]? = some y := by
      rw [← S.pre, List.getElem?_take_of_lt (by omega)]; exact h1
    have ndP : ps.Nodup := by rw [← S.pre]; exact S.nd.sublist (List.take_sublist _ _)
    refine ⟨u, rv, .inl ⟨S.par y (List.mem_of_getElem? hp), look_nd ?_ ?_⟩⟩
    · rw [List.map_reverse]
      have hu2 : us.length = ps.length := by rw [← r.length]; exact hl
      rw [show (ps.zip us).map (·.1) = ps from List.map_fst_zip (by omega)]
      exact List.pairwise_reverse.mpr (List.Pairwise.imp (fun h => Ne.symm h) ndP)
    · refine List.mem_reverse.mpr (List.mem_of_getElem? (i := i) ?_)
      rw [List.getElem?_zip_eq_some]
      exact ⟨hp, hu⟩
  · obtain ⟨_, rfl⟩ := cl y c h
    exact ⟨v0, oc, hk _ _ sc'.1, hoc⟩
  · obtain ⟨_, rfl⟩ := cl y c h
    exact sc'.2
  · unfold L2.start
    show _ = N.length
    rw [List.length_append, List.length_map, List.length_replicate]
    omega
/-- statements run where the code on top is this body's -/
structure PSup (X : Cx) (whole st : List Stmt) (t : TS) : Prop where
  run : ∀ (pins : List (Addr × Obj)) (s : Shared) (σ : L2.St) (H : Hp) (D : Ends), Inv X pins σ H s → t D σ H → _root_.PySem.wpAt (model X.prog X.w) X.A (.func whole X.env) (execs st X.env) (SP X pins D) X.xe s
theorem psup_cons {X : Cx} {whole : List Stmt} {st : Stmt} {rest : List Stmt} {t u : TS} (h1 : PS X st t) (h2 : PSup X whole rest u) : PSup X whole (st :: rest) (tSeq t u) := by
  refine ⟨fun pins s σ H D I h => ?_⟩
  refine ks_wpAt_execs_cons (wpAt_of_wpAny (thn (h1.run pins s σ H { D with nx := u D } I h) fun f s1 q => ?_))
  cases f with
  | next =>
    obtain ⟨σ', H', I', q⟩ := q
    exact h2.run pins s1 σ' H' D I' q
  | ret v => exact q
  | brk => exact q
  | cont => exact q
theorem fn_sup {CX : CXT} {P : Program} {w : World} {K : PySem.W.Frag} {mg : Str → Option Value} {base : Heap} {k : Nat} {f cc : Addr} {name qual : Str} {params : Arguments} {body : List Stmt} {scope : Scope} {dV kV doc pm cdv ct oc : Value} {an od : Option Addr}
    {osl : Array (Option Value)} {N ps : List Str} {sp : Sp} {oc' : Obj} {v0 : Option Value} (lk : K.lookup f = some ⟨oc, od, .func (PySem.W.ksFn name qual params body scope dV kV doc pm an cdv ct cc), osl⟩) (hcd : PySem.W.codeIn K cdv qual = true) (S : SupScope N ps scope)
    (hcc : K.lookup cc = some oc') (hoc : oc'.data = .cell v0)
    (len : ∀ vs H Q E, sp vs H Q E → vs.length = ps.length)
    (hbody : ∀ (A : Around) (outer : List Env) (s : Shared) (H : Hp) (vs : List V) (Q : VK) (E : XK), Room k (A.deeper (PySem.W.ksEnv qual scope s.heap.objs.size f cdv cc)) → sp vs H Q E →
      ∃ t, PSup (cxS CX P w K mg base N qual scope f cdv cc A outer s H E) body body t ∧ t { nx := fun _ H' => Q .non H', rt := Q } (start N vs) H) :
    FnOk P w K mg base CX (k + 1) f (PySem.W.ksFn name qual params body scope dV kV doc pm an cdv ct cc) ps sp := by
  refine ⟨len, fun A outer s H args us vs Q E hr e0 hb r hsp => ?_⟩
  have hl := len _ _ _ _ hsp
  have KX : K.In s.heap := e0.mod.kin.keeps fun b o e => (e0.bs b o e).1
  have lim : s.heap.NoLimit := e0.mod.nolimit.keeps fun b o e => (e0.bs b o e).1
  refine ks_codeAny_call_defAt hr.depth (KX _ _ lk) rfl lim (PySem.W.codeRec_of KX hcd) rfl hb S.nocell (fun y hy => S.par _ (List.of_mem_zip (show (y.1, y.2) ∈ ps.zip us from hy)).1) (fun h1 hns hk => ?_) S.co S.gen S.kind
  obtain ⟨t, ht, hq⟩ := hbody A outer s H vs Q E (hr.deeper _) hsp
  have I : Inv (cxS CX P w K mg base N qual scope f cdv cc A outer s H E) [] (start N vs) H { s with heap := h1, toks := s.toks + (ps.zip us).length } := inv_sup S hr.hd e0 hl r hcc hoc hns hk
  refine ks_wpAt_mono (ht.run [] _ (start N vs) H _ I hq) (fun fl s' hs => ?_) fun e s' hs => hs
  have fin : ∀ {σ' : L2.St} {H' : Hp} {v : V} {u : Value}, Inv (cxS CX P w K mg base N qual scope f cdv cc A outer s H E) [] σ' H' s' → RelV v u → Q v H' → CE outer P w H s Q u s' :=
    fun {σ' H' v u} J rv q => ⟨v, H', J.os, J.bare, J.base, J.hok, rv, q⟩
  cases fl with
  | ret u =>
    obtain ⟨v, σ', H', J, rv, q⟩ := hs
    exact fin J rv q
  | next =>
    obtain ⟨σ', H', J, q⟩ := hs
    exact fin (v := V.non) (u := Value.none) J rfl q
  | brk =>
    obtain ⟨_, _, _, q⟩ := hs
    exact False.elim q
  | cont =>
    obtain ⟨_, _, _, q⟩ := hs
    exact False.elim q
/-- what of the text super() reads, in the method f of the class at D -/
structure SupOf (P : Program) (K : PySem.W.Frag) (mg : Str → Option Value) (f cda cc D f2 : Addr) (sn : Str) : Prop where
  fn : ∃ (oc : Value) (od : Option Addr) (fd : FuncData) (osl : Array (Option Value)) (ar : Arg), K.lookup f = some ⟨oc, od, .func fd, osl⟩ ∧ (fd.params.posonlyargs ++ fd.params.args).head? = some ar ∧ ar.arg = sn
  code : ∃ (ccl : Value) (cdd : Option Addr) (vs : Array Value) (ccs : Array (Option Value)) (file : Str) (tf : Tok), K.lookup cda = some ⟨ccl, cdd, .fields vs, ccs⟩ ∧ vs[2]? = some (.str file tf) ∧ ((P.main.file : Str) == file) = true
  cell : ∃ (cl : Value) (cld : Option Addr) (csl : Array (Option Value)), K.lookup cc = some ⟨cl, cld, .cell (some (.ref D)), csl⟩
  cls : ∃ cd, PySem.W.clsIn K D = some cd
  nosup : mg "super" = none
  top : (P.main.scope.names.lookup ("super" : Str)).isSome = false
  any : PySem.W.nsIn K PySem.cStatics "thirdparty.any" = some none
  fn2 : PySem.W.typeIn K (.ref f2) = some (.type "function")
  fi : PySem.W.fnIn K f2 = true
/-- the program's file, and that it lays no super of its own -/
structure PrF (fl : Str) (P : Program) : Prop where
  file : ((P.main.file : Str) == fl) = true
  top : (P.main.scope.names.lookup ("super" : Str)).isSome = false
/-- the same without the program -/
structure SupK (K : PySem.W.Frag) (mg : Str → Option Value) (fl : Str) (cda cc D f2 : Addr) : Prop where
  code : ∃ (ccl : Value) (cdd : Option Addr) (vs : Array Value) (ccs : Array (Option Value)) (tf : Tok), K.lookup cda = some ⟨ccl, cdd, .fields vs, ccs⟩ ∧ vs[2]? = some (.str fl tf)
  cell : ∃ (cl : Value) (cld : Option Addr) (csl : Array (Option Value)), K.lookup cc = some ⟨cl, cld, .cell (some (.ref D)), csl⟩
  cls : ∃ cd, PySem.W.clsIn K D = some cd
  nosup : mg "super" = none
  any : PySem.W.nsIn K PySem.cStatics "thirdparty.any" = some none
  fn2 : PySem.W.typeIn K (.ref f2) = some (.type "function")
  fi : PySem.W.fnIn K f2 = true
/-- a def of the text that closes over its class alone -/
structure FunS (K : PySem.W.Frag) (x qual : Str) (st : Stmt) (f cda cc : Addr) (fd : FuncData) : Prop where
  ex : ∃ (oc : Value) (od : Option Addr) (kV doc pm : Value) (an : Option Addr) (ct : Value) (osl : Array (Option Value)),
    fd = PySem.W.ksFn x qual (defArgs st) (defBody st) (defScope st) .none kV doc pm an (.ref cda) ct cc ∧ K.lookup f = some ⟨oc, od, .func fd, osl⟩ ∧ PySem.W.codeIn K (.ref cda) qual = true
  kp : PySem.W.keepIn K (.ref f) = true
theorem SupK.of {fl : Str} {P : Program} (h : PrF fl P) {K : PySem.W.Frag} {mg : Str → Option Value} {x qual : Str} {st : Stmt} {f cda cc D f2 : Addr} {fd : FuncData} {sn : Str} (k : SupK K mg fl cda cc D f2) (F : FunS K x qual st f cda cc fd)
    (hp : (((defArgs st).posonlyargs ++ (defArgs st).args).head?.map (·.arg)) = some sn) : SupOf P K mg f cda cc D f2 sn := by
  obtain ⟨oc, od, kV, doc, pm, an, ct, osl, rfl, lk, hcd⟩ := F.ex
  obtain ⟨ar, ha, hs⟩ := Option.map_eq_some_iff.mp hp
  obtain ⟨c1, c2, vs, c4, tf, e1, e2⟩ := k.code
  exact ⟨⟨_, _, _, _, ar, lk, ha, hs⟩, ⟨c1, c2, vs, c4, fl, tf, e1, e2, h.file⟩, k.cell, k.cls, k.nosup, h.top, k.any, k.fn2, k.fi⟩
theorem FunS.okX {P : Program} {w : World} {K : PySem.W.Frag} {mg : Str → Option Value} {base : Heap} {fl x qual : Str} {st : Stmt} {f cda cc D f2 : Addr} {fd : FuncData} {N ps : List Str} {k : Nat} {sp : Sp} (F : FunS K x qual st f cda cc fd) (S : SupScope N ps (defScope st)) (sk : SupK K mg fl cda cc D f2)
    (len : ∀ vs H Q E, sp vs H Q E → vs.length = ps.length)
    (hbody : ∀ (A : Around) (outer : List Env) (s : Shared) (H : Hp) (vs : List V) (Q : VK) (E : XK), Room k (A.deeper (PySem.W.ksEnv qual (defScope st) s.heap.objs.size f (.ref cda) cc)) → sp vs H Q E →
      ∃ t, PSup (cxS (L2.CX P w) P w K mg base N qual (defScope st) f (.ref cda) cc A outer s H E) (defBody st) (defBody st) t ∧ t { nx := fun _ H' => Q .non H', rt := Q } (start N vs) H) : FnOk P w K mg base (L2.CX P w) (k + 1) f fd ps sp := by
  obtain ⟨oc, od, kV, doc, pm, an, ct, osl, rfl, lk, hcd⟩ := F.ex
  obtain ⟨c1, c2, c3, hcc⟩ := sk.cell
  exact fn_sup lk hcd S hcc rfl len hbody
theorem FunS.binds {K : PySem.W.Frag} {x qual : Str} {st : Stmt} {f cda cc : Addr} {fd : FuncData} {ps : List Str} (F : FunS K x qual st f cda cc fd)
    (h : ∀ (kV doc pm : Value) (an : Option Addr) (ct : Value) (us : List Value), us.length = ps.length → bindArgs (PySem.W.ksFn x qual (defArgs st) (defBody st) (defScope st) .none kV doc pm an (.ref cda) ct cc) ⟨us, []⟩ = pure (ps.zip us)) : Binds K fd ps [] := by
  obtain ⟨oc, od, kV, doc, pm, an, ct, osl, rfl, lk, hcd⟩ := F.ex
  exact .all (h kV doc pm an ct)
theorem funS_mk {K : PySem.W.Frag} {x qual : Str} {st : Stmt} {f cda cc : Addr} {oc : Value} {od an : Option Addr} {osl : Array (Option Value)} {kV doc pm ct : Value} (l : K.lookup f = some ⟨oc, od, .func (PySem.W.ksFn x qual (defArgs st) (defBody st) (defScope st) .none kV doc pm an (.ref cda) ct cc), osl⟩)
    (c : PySem.W.codeIn K (.ref cda) qual = true) (k : PySem.W.keepIn K (.ref f) = true) : FunS K x qual st f cda cc (PySem.W.ksFn x qual (defArgs st) (defBody st) (defScope st) .none kV doc pm an (.ref cda) ct cc) := ⟨⟨oc, od, kV, doc, pm, an, ct, osl, rfl, l, c⟩, k⟩
/-- .. of an instance of the class at C -/
structure SupAt (K : PySem.W.Frag) (C D f2 : Addr) (m : Str) : Prop where
  sub : PySem.W.mroIn K C (.ref D) = some true
  at_ : PySem.W.ks_superIn K C D m = some (some (.ref f2))
  cl : ∃ cd, PySem.W.clsIn K C = some cd
def tSup (K : PySem.W.Frag) (D f2 : Addr) (m : Str) (sp2 : Sp) (E : XK) (t : TA) : TS := fun Dn σ H => ∃ (x C dx : Addr) (fs : List (Str × V)), σ[0]? = some (some (V.ref x)) ∧ H x = some (.ins C dx fs) ∧ SupAt K C D f2 m ∧ t σ H fun vs H1 => sp2 (.ref x :: vs) H1 (fun _ H2 => Dn.nx σ H2) E
theorem psup_super {X : Cx} {whole : List Stmt} {CX : CXT} {k : Nat} {D f f2 cda cc : Addr} {sn m : Str} {sp2 : Sp} {E : XK} {e : Expr} {es : List Expr} {t : TA} {p0 p1 apos pos pos2 : Pos} {pl : Sem Bool}
    (so : SupOf X.prog X.K X.mg f cda cc D f2 sn) (F2 : FnR X.prog X.w X.K X.mg X.base CX k f2 sp2) (hr : Room k X.A) (hx : Passes CX X E) (ha : PA X (e :: es) t)
    (hfu : X.env.func = some f) (hco : X.env.code = .ref cda) (hcl : X.env.cells.lookup ("__class__" : Str) = some cc)
    (hks : X.env.kindOf "super" = some .globalImplicit) (hkc : X.env.kindOf "__class__" = some .free) (hk0 : X.env.kindOf sn = some .local) (hN : X.N[0]? = some sn) (hat : (m == ("__class__" : Str)) = false := by decide)
    (hboot : bootBuiltins "super" = some (.type "super") := by rfl)
    (hst : starEach (e :: es) X.env = (false, eval e X.env) :: starEach es X.env := by rfl) (hpl : (backTo pos (starEach es X.env)).any (·.1) = false := by rfl)
    (hs : swapsWith (.Call (.Attribute (.Call (.Name "super" p0) [] [] p1) m apos) (e :: es) [] pos) none pos2.line X.env = pure false := by rfl)
    (ht : eval (.Call (.Attribute (.Call (.Name "super" p0) [] [] p1) m apos) (e :: es) [] pos) X.env = (do
      let ov ← attributeBase (.Call (.Name "super" p0) [] [] p1) m X.env (eval (.Call (.Name "super" p0) [] [] p1) X.env)
      standAt apos.atName
      let (f, first) ← holding [ov] (getMethod ov m pl)
      callWith pos f first (backTo pos (starEach (e :: es) X.env)) []) := by rfl) :
    PSup X whole [.Expr (.Call (.Attribute (.Call (.Name "super" p0) [] [] p1) m apos) (e :: es) [] pos) pos2] (tSup X.K D f2 m sp2 E t) := by
  refine ⟨fun pins s σ H Dn I ⟨x, C, dx, fs, h0, hxa, sa, h⟩ => ?_⟩
  have sf := so.fn
  obtain ⟨oc, od, fd, osl, ar, hf, hp, rfl⟩ := sf
  obtain ⟨ccl, cdd, vs0, ccs, file, tf, hcode, hvs, hfile⟩ := so.code
  obtain ⟨cl, cld, csl, hcell⟩ := so.cell
  obtain ⟨cdD, hD⟩ := so.cls
  obtain ⟨cd, hc⟩ := sa.cl
  obtain ⟨oD, hD1, hD2⟩ : ∃ oD, s.heap.get? D = some oD ∧ oD.data = .cls cdD := by
    unfold PySem.W.clsIn at hD
    split at hD
    · rename_i c d cd' sl ho
      cases hD
      exact ⟨_, base_at I ho, rfl⟩
    · cases hD
  refine ks_wpAt_execs_cons (ks_wpAt_Expr_any (ks_wpAt_MethodCall (pl := pl) ?_ ht) I.quiet hs)
  refine ks_wpAt_super_base hks hkc hat hfu (base_at I hf) rfl hp hco (base_at I hcode) rfl hvs hfile so.top ?_
  obtain ⟨mb, b1, b2⟩ := I.mod.blt
  refine PySem.W.ks_loadName_global I.ok.kind hks (Calls.loadGlobal_builtin (by rw [I.ok.glob]; exact I.mod.glob.keeps I.bk) so.nosup (by rw [I.ok.blt]; exact b1.keeps I.bk) ((b2 "super" (by decide)).trans hboot) ⟨rfl, ?_⟩)
  refine wpAny_loadName_free I.ok.kind hkc hcl ⟨_, base_at I hcell, rfl⟩ ?_
  obtain ⟨mm, hn, hlk⟩ := I.loc
  obtain ⟨u, ru, lu⟩ := hlk 0 ar.arg (.ref x) hN h0 (.inl hk0)
  obtain rfl : u = Value.ref x := ru
  have hm : mm ar.arg = some (Value.ref x) := by
    rcases lu with ⟨_, q⟩ | ⟨q, _⟩
    · exact q
    · rw [hk0] at q
      rcases q with q | q <;> cases q
  refine wpAny_loadName_local I.ok.kind hk0 hn hm ?_
  refine ks_wpAny_isType_cls hD1 hD2 ⟨rfl, ?_⟩
  obtain ⟨mA, O, _, _, _, _⟩ := ins_get I.hok hxa
  obtain ⟨odx, J, _⟩ := O.look
  obtain ⟨hh, g, d, tt, os⟩ := s
  refine ks_wpAny_call_super hD1 hD2 J.at_ J.cls (fun c e => ?_) (PySem.W.looks_mroIn I.kIn sa.sub) (fun h' e k => ?_)
  · have := J.no
    unfold PySem.W.notCls at this
    rw [e] at this
    exact Bool.noConfusion this
  have I1 : Inv X ((hh.objs.size, PySem.W.ks_superObj D x C) :: pins) σ H ⟨h', g, d, tt, os⟩ := ClX.pin_new I k (Nat.le_refl _) e (fun v z => nomatch z)
  obtain ⟨mA', O', _, _, _, _⟩ := ins_get I1.hok hxa
  obtain ⟨odx', J', _⟩ := O'.look
  obtain ⟨of, hof, hofc⟩ : ∃ of, h'.get? f2 = some of ∧ of.cls = .type "function" := by
    have ht' : (X.K.lookup f2).map (·.cls) = some (.type "function") := so.fn2
    cases z : X.K.lookup f2 with
    | none => rw [z] at ht'; cases ht'
    | some of => rw [z] at ht'; exact ⟨of, base_at I1 z, Option.some.inj ht'⟩
  have hm2 := sa.at_
  unfold PySem.W.ks_superIn at hm2
  rw [hc] at hm2
  refine ks_wpAny_getMethod_super (ClX.pin_at I1) (PySem.W.looks_opaque I1.kIn so.any) (l₀ := cd.mro) (fun A Q E s k q => wpAny_bind ((PySem.W.looks_clsIn I1.kIn hc) A _ E s k (wpAny_pure q))) rfl I1.kIn hm2 hof hofc (PySem.W.ks_ne I1.kIn J' hc) hat ?_
  have I2 : Inv X ((h'.objs.size, PySem.W.methodObj (.ref f2) (.ref x)) :: (hh.objs.size, PySem.W.ks_superObj D x C) :: pins) σ H ⟨h'.push (PySem.W.methodObj (.ref f2) (.ref x)), g, d, tt + 1, os⟩ :=
    ClX.pin_new I1 (fun _ _ z => Heap.get?_push_of_some _ z) (Nat.le_refl _) (Heap.get?_push_size _ rfl) (fun v z => nomatch z)
  have hb : X.base.get? h'.objs.size = none := ClX.base_none I1 (Nat.le_refl _)
  have hL : h'.objs.size ≠ X.env.locals := (I2.pin (h'.objs.size, PySem.W.methodObj (.ref f2) (.ref x)) (List.mem_append_right _ List.mem_cons_self)).2.2.1
  refine PySem.W.callWith_M (K := X.K) (h₀ := X.base) (first := []) I.ok.mod.kin (news_at hL hb (ClX.pin_at I2)) List.mem_cons_self so.fi ?_ hst hpl
  refine thn (ha.run pos _ _ σ H _ I2 h) fun us s3 ⟨vs, H2, I3, rv, q2⟩ => ⟨⟨ClX.pin_at I3, I3.kIn⟩, ?_⟩
  refine thn (wpAny_call (PySem.W.method_call (ClX.pin_at I3) (run_fnR (us := .ref x :: us) (vs := .ref x :: vs) F2 hr hx I3 (.cons rfl rv) q2))) fun v s4 ⟨v', H4, I4, _, q4⟩ => ?_
  exact wpAt_of_wpAny (wpAny_execs_nil ⟨σ, H4, ClX.unpin (ClX.unpin I4), q4⟩)
end
end My

namespace My
open PySem PySem.Spec PyProof.Rows L2 StX
def top (i : Nat) : Stmt := PySem.Challenge.pw_wheelreach_k22_wheels_made_and_refused.main.body.getD i (.Pass ⟨0, 0, 0, 0⟩)
abbrev s_is_whole : Stmt := top 8
abbrev s_is_between : Stmt := top 9
abbrev s_need_part : Stmt := top 22
abbrev s_pen : Stmt := top 26
abbrev s_draw : Stmt := top 27
abbrev s_pick : Stmt := top 28
abbrev s_heard : Stmt := top 29
abbrev s_part : Stmt := top 30
abbrev s_told_right : Stmt := top 31
abbrev s_classes : Stmt := top 32
abbrev s_made_right : Stmt := top 33
abbrev s_refused_right : Stmt := top 34
abbrev s_law : Stmt := top 35
abbrev s_BadWheel_init : Stmt := inClass (top 4) 0
abbrev s_Wheel_init : Stmt := inClass (top 17) 1
abbrev s_Wheel_trusted : Stmt := inClass (top 17) 3
abbrev s_Wheel_play : Stmt := inClass (top 17) 4
abbrev s_Wheel_never_parts : Stmt := inClass (top 17) 5
abbrev s_Wheel_eq : Stmt := inClass (top 17) 8
abbrev s_Wheel_str : Stmt := inClass (top 17) 9
abbrev s_Even_init : Stmt := inClass (top 18) 0
abbrev s_Exact_init : Stmt := inClass (top 19) 0
abbrev s_Lagging_init : Stmt := inClass (top 20) 0
abbrev s_Grid_init : Stmt := inClass (top 21) 1
abbrev lawFile : Str := PySem.Challenge.pw_wheelreach_k22_wheels_made_and_refused.main.file
theorem sc_is_whole : FnScope ["value"] ["value"] (defScope s_is_whole) := ⟨rfl, rfl, rfl, by decide +kernel, rfl, by decide +kernel, by decide +kernel⟩
theorem sc_is_between : FnScope ["value", "low", "high"] ["value", "low", "high"] (defScope s_is_between) := ⟨rfl, rfl, rfl, by decide +kernel, rfl, by decide +kernel, by decide +kernel⟩
theorem sc_need_part : FnScope ["value", "least", "part"] ["value", "least", "part"] (defScope s_need_part) := ⟨rfl, rfl, rfl, by decide +kernel, rfl, by decide +kernel, by decide +kernel⟩
theorem sc_pen : FnScope ["_law_script"] ["_law_script"] (defScope s_pen) := ⟨rfl, rfl, rfl, by decide +kernel, rfl, by decide +kernel, by decide +kernel⟩
theorem sc_draw : FnScope ["_law_pen_here", "_law_many", "_law_digit", "_law_begun", "_law_raw", "_law_great", "_law_stirred"] ["_law_pen_here", "_law_many"] (defScope s_draw) := ⟨rfl, rfl, rfl, by decide +kernel, rfl, by decide +kernel, by decide +kernel⟩
theorem sc_pick : FnScope ["_law_pen_here", "_law_some"] ["_law_pen_here", "_law_some"] (defScope s_pick) := ⟨rfl, rfl, rfl, by decide +kernel, rfl, by decide +kernel, by decide +kernel⟩
theorem sc_heard : FnScope ["_law_ask", "_law_raised", "_law_told", "error"] ["_law_ask"] (defScope s_heard) := ⟨rfl, rfl, rfl, by decide +kernel, rfl, by decide +kernel, by decide +kernel⟩
theorem sc_part : FnScope ["_law_pen_here", "_law_least"] ["_law_pen_here", "_law_least"] (defScope s_part) := ⟨rfl, rfl, rfl, by decide +kernel, rfl, by decide +kernel, by decide +kernel⟩
theorem sc_told_right : FnScope ["_law_made", "_law_period", "_law_back", "_law_ahead", "_law_trusted", "_law_told", "_law_due"] ["_law_made", "_law_period", "_law_back", "_law_ahead", "_law_trusted"] (defScope s_told_right) := ⟨rfl, rfl, rfl, by decide +kernel, rfl, by decide +kernel, by decide +kernel⟩
theorem sc_classes : FnScope ["_law_made"] ["_law_made"] (defScope s_classes) := ⟨rfl, rfl, rfl, by decide +kernel, rfl, by decide +kernel, by decide +kernel⟩
theorem sc_made_right : FnScope ["_law_pen_here", "_law_period", "_law_back", "_law_ahead", "_law_some", "_law_dues", "_law_made", "_law_due", "_law_one", "_law_other", "_law_odd"] ["_law_pen_here"] (defScope s_made_right) := ⟨rfl, rfl, rfl, by decide +kernel, rfl, by decide +kernel, by decide +kernel⟩
theorem sc_refused_right : FnScope ["_law_pen_here", "_law_odd", "_law_bad", "_law_heard_here", "_law_words", "_law_word"] ["_law_pen_here"] (defScope s_refused_right) := ⟨rfl, rfl, rfl, by decide +kernel, rfl, by decide +kernel, by decide +kernel⟩
theorem sc_law : FnScope ["_law_script", "_law_pen_here", "_law_turn"] ["_law_script"] (defScope s_law) := ⟨rfl, rfl, rfl, by decide +kernel, rfl, by decide +kernel, by decide +kernel⟩
theorem sc_BadWheel_init : FnScope ["self", "part"] ["self", "part"] (defScope s_BadWheel_init) := ⟨rfl, rfl, rfl, by decide +kernel, rfl, by decide +kernel, by decide +kernel⟩
theorem sc_Wheel_init : FnScope ["self", "period", "back", "ahead"] ["self", "period", "back", "ahead"] (defScope s_Wheel_init) := ⟨rfl, rfl, rfl, by decide +kernel, rfl, by decide +kernel, by decide +kernel⟩
theorem sc_Wheel_trusted : FnScope ["self"] ["self"] (defScope s_Wheel_trusted) := ⟨rfl, rfl, rfl, by decide +kernel, rfl, by decide +kernel, by decide +kernel⟩
theorem sc_Wheel_play : FnScope ["self"] ["self"] (defScope s_Wheel_play) := ⟨rfl, rfl, rfl, by decide +kernel, rfl, by decide +kernel, by decide +kernel⟩
theorem sc_Wheel_never_parts : FnScope ["self"] ["self"] (defScope s_Wheel_never_parts) := ⟨rfl, rfl, rfl, by decide +kernel, rfl, by decide +kernel, by decide +kernel⟩
theorem sc_Wheel_eq : FnScope ["self", "other"] ["self", "other"] (defScope s_Wheel_eq) := ⟨rfl, rfl, rfl, by decide +kernel, rfl, by decide +kernel, by decide +kernel⟩
theorem sc_Wheel_str : FnScope ["self"] ["self"] (defScope s_Wheel_str) := ⟨rfl, rfl, rfl, by decide +kernel, rfl, by decide +kernel, by decide +kernel⟩
theorem sc_Even_init : SupScope ["self", "period", "slip"] ["self", "period", "slip"] (defScope s_Even_init) := ⟨rfl, rfl, rfl, by decide +kernel, rfl, by decide +kernel, by decide +kernel, by decide +kernel⟩
theorem sc_Exact_init : SupScope ["self", "period"] ["self", "period"] (defScope s_Exact_init) := ⟨rfl, rfl, rfl, by decide +kernel, rfl, by decide +kernel, by decide +kernel, by decide +kernel⟩
theorem sc_Lagging_init : SupScope ["self", "period", "lag"] ["self", "period", "lag"] (defScope s_Lagging_init) := ⟨rfl, rfl, rfl, by decide +kernel, rfl, by decide +kernel, by decide +kernel, by decide +kernel⟩
theorem sc_Grid_init : SupScope ["self", "period"] ["self", "period"] (defScope s_Grid_init) := ⟨rfl, rfl, rfl, by decide +kernel, rfl, by decide +kernel, by decide +kernel, by decide +kernel⟩
section
variable {P : Program} {w : World} {K : PySem.W.Frag} {mg : Str → Option Value} {base : Heap}
/-! ### rules and words of our own -/
/-- x(e, ..), x a def whose promise is told of the arguments as they are passed -/
theorem pe_callR {X : Cx} {CX : CXT} {k : Nat} {f : Addr} {sp : Sp} {E : XK} {x : Str} {e : Expr} {es : List Expr} {t : TA} {p pos : Pos} (F : FnR X.prog X.w X.K X.mg X.base CX k f sp) (hr : Room k X.A) (hk : PySem.W.keepIn X.K (.ref f) = true) (hg : Gl X x) (hm : X.mg x = some (.ref f)) (hx : Passes CX X E)
    (ha : PA X (e :: es) t) (hd : (x == ("__debug__" : Str)) = false := by decide) (he : starEach (e :: es) X.env = (false, eval e X.env) :: starEach es X.env := by rfl) (hpl : (backTo pos (starEach es X.env)).any (·.1) = false := by rfl) :
    PE X (.Call (.Name x p) (e :: es) [] pos) (fun σ H Q => t σ H fun vs H1 => sp vs H1 Q E) := by
  refine ⟨fun pins s σ H Q I h => ?_⟩
  refine wpAny_Call_Name_kw (ld_glob I hg hm ?_ hd)
  refine PySem.W.callWith_K (h₀ := X.base) I.ok.mod.kin hk (thn (ha.run pos pins s σ H _ I h) fun us s1 ⟨vs, H1, I1, r, q⟩ => ⟨I1.kIn, ?_⟩) he hpl
  exact wpAny_call (run_fnR F hr hx I1 r q)
theorem pe_callR0 {X : Cx} {CX : CXT} {k : Nat} {f : Addr} {sp : Sp} {E : XK} {x : Str} {p pos : Pos} (F : FnR X.prog X.w X.K X.mg X.base CX k f sp) (hr : Room k X.A) (hk : PySem.W.keepIn X.K (.ref f) = true) (hg : Gl X x) (hm : X.mg x = some (.ref f)) (hx : Passes CX X E)
    (hd : (x == ("__debug__" : Str)) = false := by decide) : PE X (.Call (.Name x p) [] [] pos) (fun σ H Q => sp [] H Q E) := by
  refine ⟨fun pins s σ H Q I h => ?_⟩
  refine wpAny_Call_Name_kw (ld_glob I hg hm ?_ hd)
  exact PySem.W.callWith_K0 I.kIn hk (wpAny_call (run_fnR (us := []) F hr hx I .nil h))
/-- def f(*v) of the text -/
theorem star_ok {P : Program} {w : World} {K : PySem.W.Frag} {mg : Str → Option Value} {base : Heap} {k : Nat} {x qual pv : Str} {st : Stmt} {f : Addr} {fd : FuncData} {N : List Str} {sp : List V → Hp → VK → XK → Prop}
    (F : Fun K x qual st f fd) (S : FnScope N [pv] (defScope st))
    (hb : ∀ (kV doc pm : Value) (an : Option Addr) (cdv ct : Value) (rest : List Value), bindArgs (PySem.W.fnOf x qual (defArgs st) (defBody st) (defScope st) .none kV doc pm an cdv ct) ⟨rest, []⟩ = (newTuple rest >>= fun t => pure [(pv, t)]))
    (hbody : ∀ (cdv : Value) (A : Around) (outer : List Env) (s : Shared) (H : Hp) (vs : List V) (p : Addr) (H0 : Hp) (Q : VK) (E : XK), Room k (A.deeper (envOfC qual (defScope st) s.heap.objs.size f cdv)) → sp vs H0 Q E → vs.length ≤ sizeLine → H0 p = Option.none → H = upd H0 p (.tup vs) →
      ∃ t, PSs (cxOf CX0 P w K mg base N qual (defScope st) f cdv A outer s H E).nox (defBody st) t ∧ t { nx := fun _ H' => Q .non H', rt := Q } (start N [V.ref p]) H) :
    FnR P w K mg base CX0 (k + 1) f (fun vs H Q E => vs.length ≤ sizeLine ∧ sp vs H Q E) := by
  obtain ⟨oc, od, kV, doc, pm, an, cdv, ct, osl, rfl, lk, hcd⟩ := F.ex
  refine FnR.imp (fn_star (ps := []) (pv := pv) (CX := CX0) (sp := fun ws H Q E => ∃ (vs : List V) (p : Addr) (H0 : Hp), ws = [V.ref p] ∧ sp vs H0 Q E ∧ vs.length ≤ sizeLine ∧ H0 p = Option.none ∧ H = upd H0 p (.tup vs)) lk hcd S cxUp_none (fun us rest hl => ?_) fun A outer s H vs Q E hr h => ?_) fun vs H Q E h => ?_
  · have e : us = [] := List.length_eq_zero_iff.mp hl
    subst e
    show bindArgs _ ⟨rest, []⟩ = _
    rw [hb]
    rfl
  · obtain ⟨ws, p, H0, rfl, hs, hl, hp, rfl⟩ := h
    obtain ⟨t, ht, hq⟩ := hbody cdv A outer s _ ws p H0 Q E hr hs hl hp rfl
    exact ⟨t, ht.nox, hq⟩
  · exact ⟨[], vs, rfl, rfl, h.1, fun p hp => ⟨vs, p, H, rfl, h.2, h.1, hp, rfl⟩⟩
/-- all but p is as it was -/
structure Fr (p : Addr) (H H' : Hp) : Prop where
  keep : ∀ b o, b ≠ p → H b = some o → H' b = some o
  head : ∀ v xs, H p = some (.lst (v :: xs)) → ∃ ys, H' p = some (.lst (v :: ys))
instance {p : Addr} {H H' : Hp} : CoeFun (Fr p H H') fun _ => ∀ b o, b ≠ p → H b = some o → H' b = some o := ⟨Fr.keep⟩
theorem Fr.refl (p : Addr) (H : Hp) : Fr p H H := ⟨fun _ _ _ h => h, fun _ xs h => ⟨xs, h⟩⟩
theorem Fr.trans {p : Addr} {H H1 H2 : Hp} (a : Fr p H H1) (b : Fr p H1 H2) : Fr p H H2 := ⟨fun c o n h => b.keep c o n (a.keep c o n h), fun v xs h => by
  obtain ⟨ys, h1⟩ := a.head v xs h
  exact b.head v ys h1⟩
theorem same_fr {p : Addr} {H H' : Hp} (s : Same H H') : Fr p H H' := ⟨fun b o _ h => s b o h, fun _ xs h => ⟨xs, s _ _ h⟩⟩
theorem same_new {H : Hp} {p : Addr} {o : HO} (h : H p = Option.none) : Same H (upd H p o) := fun b u e => by
  rw [upd_ne (ne_of_none e h)]; exact e
theorem fr_upd {H : Hp} {p : Addr} {v : V} {xs ys : List V} (hp : H p = some (.lst (v :: xs))) : Fr p H (upd H p (.lst (v :: ys))) := ⟨fun b u n e => by rw [upd_ne n]; exact e, fun v' xs' e => by
  rw [hp] at e
  cases e
  exact ⟨ys, upd_same⟩⟩
theorem Fr.seq {K : PySem.W.Frag} {p a : Addr} {H H' : Hp} {xs : List V} (e : Fr p H H') (n : a ≠ p) (h : SqL K H a xs) : SqL K H' a xs := by
  rcases h with (h | ⟨o, h⟩) | h
  · exact .inl (.inl (e _ _ n h))
  · exact .inl (.inr ⟨o, e _ _ n h⟩)
  · exact .inr h
/-- the state of the draws: the cells, the index, what is left of a great one -/
def Pen (H : Hp) (p : Addr) (n : Nat) : Prop := ∃ (c : Addr) (ns : List Int) (i g : Int), H p = some (.lst [.ref c, .int i, .int g]) ∧ H c = some (.lst (ns.map V.int)) ∧ 0 ≤ i ∧ i ≤ (n : Int) ∧ 0 ≤ g ∧ ns.length ≤ 63
theorem Pen.same {H H' : Hp} {p : Addr} {n : Nat} (h : Pen H p n) (s : Same H H') : Pen H' p n := by
  obtain ⟨c, ns, i, g, h1, h2, h3⟩ := h
  exact ⟨c, ns, i, g, s _ _ h1, s _ _ h2, h3⟩
theorem Pen.mono {H : Hp} {p : Addr} {n m : Nat} (h : Pen H p n) (l : n ≤ m) : Pen H p m := by
  obtain ⟨c, ns, i, g, h1, h2, h3, h4, h5⟩ := h
  exact ⟨c, ns, i, g, h1, h2, h3, by omega, h5⟩
theorem pen_ne {H : Hp} {p c : Addr} {x y : V} {a : Addr} {ns : List Int} (h1 : H p = some (.lst [.ref a, x, y])) (h2 : H c = some (.lst (ns.map V.int))) : c ≠ p := fun e => by
  rw [e, h1] at h2
  cases ns with
  | nil => cases h2
  | cons z r => injection h2 with h2; injection h2 with h2; injection h2 with h2; cases h2
theorem Pen.at {H : Hp} {p : Addr} {n : Nat} (h : Pen H p n) : ∃ xs, H p = some (.lst xs) := by
  obtain ⟨c, ns, i, g, h1, _⟩ := h
  exact ⟨_, h1⟩
theorem Pen.neq {H : Hp} {p a : Addr} {n : Nat} (h : Pen H p n) (e : H a = Option.none) : a ≠ p := fun z => by
  obtain ⟨xs, h⟩ := h.at
  rw [z, h] at e; cases e
theorem if_true_of {c : Bool} {A B : Prop} (hc : c = true) (h : A) : if c = true then A else B := by
  rw [if_pos hc]; exact h
theorem if_false_of {c : Bool} {A B : Prop} (hc : c = false) (h : B) : if c = true then A else B := by
  rw [hc, if_neg Bool.false_ne_true]; exact h
theorem atI_in {ns : List Int} {j : Int} (h0 : 0 ≤ j) (h1 : j < (ns.length : Int)) : ∃ z, atI (ns.map V.int) j = some (V.int z) := by
  have h : j.toNat < ns.length := by omega
  exact ⟨ns[j.toNat], at_of (j := j.toNat) (by omega) (by rw [List.getElem?_map]; simp [h])⟩
theorem atI_any {xs : List V} {j : Int} (h0 : 0 ≤ j) (h1 : j < (xs.length : Int)) : ∃ z, z ∈ xs ∧ atI xs j = some z := by
  have h : j.toNat < xs.length := by omega
  exact ⟨xs[j.toNat], List.getElem_mem h, at_of (j := j.toNat) (by omega) (by simp [h])⟩
theorem cut_ints (ns : List Int) (lo hi : Option Int) : ∃ ms : List Int, cutV (ns.map V.int) lo hi = ms.map V.int ∧ ms.length ≤ ns.length := by
  refine ⟨(ns.drop (HT.sIx (ns.map V.int).length 0 lo)).take (HT.sIx (ns.map V.int).length (ns.map V.int).length hi - HT.sIx (ns.map V.int).length 0 lo), ?_, ?_⟩
  · unfold cutV
    rw [List.map_take, List.map_drop]
  · rw [List.length_take, List.length_drop]
    omega
theorem stir1 {r b d e : Int} (h0 : 0 ≤ r) (h1 : r < 2147483648) (b0 : 0 ≤ b) (b1 : b ≤ 100000) (d0 : 0 ≤ d) (d1 : d ≤ 100000) (e0 : 0 ≤ e) (e1 : e ≤ 100000) : (r + d * b + e).natAbs < 2 ^ 64 := by
  have h2 := Int.mul_nonneg d0 b0
  have h3 : d * b ≤ d * 100000 := Int.mul_le_mul_of_nonneg_left b1 d0
  omega
theorem stir2 {s b c d e : Int} (h0 : 0 ≤ s) (h1 : s < 2147483648) (b0 : 0 ≤ b) (b1 : b ≤ 100000) (c0 : 0 ≤ c) (c1 : c ≤ 100000) (d0 : 0 ≤ d) (d1 : d ≤ 100000) (e0 : 0 ≤ e) (e1 : e ≤ 100000) : (s * (2 * b + c) + d * b * b + e).natAbs < 2 ^ 64 := by
  have h2 := Int.mul_nonneg h0 (show 0 ≤ 2 * b + c by omega)
  have h3 : s * (2 * b + c) ≤ 2147483648 * (2 * b + c) := Int.mul_le_mul_of_nonneg_right (by omega) (by omega)
  have h4 := Int.mul_nonneg d0 b0
  have h5 := Int.mul_nonneg h4 b0
  have h6 : d * b ≤ d * 100000 := Int.mul_le_mul_of_nonneg_left b1 d0
  have h7 : d * b * b ≤ d * b * 100000 := Int.mul_le_mul_of_nonneg_left b1 h4
  omega
theorem small64 {i : Int} (h0 : 0 ≤ i) (h1 : i < 2147483648) : -(2 ^ 64) < i ∧ i < 2 ^ 64 := by omega
theorem fmod_pos {x m : Int} (hm : 0 < m) : 0 ≤ x.fmod m ∧ x.fmod m < m := by
  rw [Int.fmod_eq_emod_of_nonneg x (by omega)]
  exact ⟨Int.emod_nonneg _ (by omega), Int.emod_lt_of_pos _ hm⟩
theorem dp_ints {K : PySem.W.Frag} {H : Hp} : ∀ ns : List Int, DpAll K H (ns.map V.int) (ns.map PyData.int)
  | [] => .nil
  | z :: r => .cons (.int z) (dp_ints r)
theorem eqvAll_ints : ∀ ns : List Int, PyData.eqvAll (ns.map PyData.int) (ns.map PyData.int) = true
  | [] => by simp [PyData.eqvAll]
  | z :: r => by simp [PyData.eqvAll, PyData.eqv, eqvAll_ints r]
theorem eqv_ints (ns : List Int) : PyData.eqv (.list (ns.map PyData.int)) (.list (ns.map PyData.int)) = true := by
  rw [PyData.eqv]; exact eqvAll_ints ns

/-! ### defs told for callers around whom nothing is being shown by repr -/
def FnG (P : Program) (w : World) (K : PySem.W.Frag) (mg : Str → Option Value) (base : Heap) (CX : CXT) (k : Nat) (f : Addr) (sp : Sp) : Prop :=
  ∀ (A : Around) (outer : List Env) (s : Shared) (H : Hp) (us : List Value) (vs : List V) (Q : VK) (E : XK), A.guards = some [] → Room k A → Env0 P w K mg base A outer s H → Vals vs us → sp vs H Q E →
    codeAny (model P w) A (.call (.ref f) { pos := us, kw := [] }) (CR CX outer P w H s Q E) s
theorem FnG.of {P : Program} {w : World} {K : PySem.W.Frag} {mg : Str → Option Value} {base : Heap} {CX : CXT} {k : Nat} {f : Addr} {sp : Sp} (F : FnR P w K mg base CX k f sp) : FnG P w K mg base CX k f sp :=
  fun A o s H us vs Q E _ hr => F A o s H us vs Q E hr
theorem FnG.mk {P : Program} {w : World} {K : PySem.W.Frag} {mg : Str → Option Value} {base : Heap} {CX : CXT} {k : Nat} {x qual : Str} {st : Stmt} {f : Addr} {fd : FuncData} {N ps : List Str} {sp : Sp}
    (F : Fun K x qual st f fd) (S : FnScope N ps (defScope st)) (B : Binds K fd ps []) (len : ∀ vs H Q E, sp vs H Q E → vs.length = ps.length)
    (go : ∀ (cdv : Value) (A : Around) (outer : List Env) (s : Shared) (H : Hp) (vs : List V) (Q : VK) (E : XK), (A.deeper (envOfC qual (defScope st) s.heap.objs.size f cdv)).guards = some [] → Room k (A.deeper (envOfC qual (defScope st) s.heap.objs.size f cdv)) → sp vs H Q E →
      ∃ t, PSs (cxOf CX P w K mg base N qual (defScope st) f cdv A outer s H E) (defBody st) t ∧ t { nx := fun _ H1 => Q .non H1, rt := Q } (start N vs) H) : FnG P w K mg base CX (k + 1) f sp := by
  obtain ⟨oc, od, kV, doc, pm, an, cdv, ct, osl, e, lk, hcd⟩ := F.ex
  subst e
  intro A outer s H us vs Q E hg hr e0 rv hs
  have hl := len _ _ _ _ hs
  have hu : (us ++ []).length = ps.length := by rw [List.append_nil, ← hl]; exact rv.length.symm
  have b := B s us (e0.mod.kin.keeps fun b o z => (e0.bs b o z).1) hu
  rw [List.append_nil] at b
  exact LamX.run_ofS lk hcd S hr e0 b rv hl fun hr1 => go cdv A outer s H vs Q E hg hr1 hs
theorem FnG.mk0 {P : Program} {w : World} {K : PySem.W.Frag} {mg : Str → Option Value} {base : Heap} {k : Nat} {x qual : Str} {st : Stmt} {f : Addr} {fd : FuncData} {N ps : List Str} {sp : Sp}
    (F : Fun K x qual st f fd) (S : FnScope N ps (defScope st)) (B : Binds K fd ps []) (len : ∀ vs H Q E, sp vs H Q E → vs.length = ps.length)
    (go : ∀ (cdv : Value) (A : Around) (outer : List Env) (s : Shared) (H : Hp) (vs : List V) (Q : VK) (E : XK), (A.deeper (envOfC qual (defScope st) s.heap.objs.size f cdv)).guards = some [] → Room k (A.deeper (envOfC qual (defScope st) s.heap.objs.size f cdv)) → sp vs H Q E →
      ∃ t, PSs (cxOf CX0 P w K mg base N qual (defScope st) f cdv A outer s H E).nox (defBody st) t ∧ t { nx := fun _ H1 => Q .non H1, rt := Q } (start N vs) H) : FnG P w K mg base CX0 (k + 1) f sp :=
  FnG.mk F S B len fun cdv A outer s H vs Q E hg hr hs => by
    obtain ⟨t, ht, q⟩ := go cdv A outer s H vs Q E hg hr hs
    exact ⟨t, ht.nox, q⟩
/-- .. of a def whose code object is known -/
theorem FnG.mkL {P : Program} {w : World} {K : PySem.W.Frag} {mg : Str → Option Value} {base : Heap} {k : Nat} {x qual : Str} {st : Stmt} {f c : Addr} {N ps : List Str} {sp : Sp} {oc : Value} {od an : Option Addr} {osl : Array (Option Value)} {kV doc pm ct : Value}
    (lk : K.lookup f = some ⟨oc, od, .func (PySem.W.fnOf x qual (defArgs st) (defBody st) (defScope st) .none kV doc pm an (.ref c) ct), osl⟩) (hcd : PySem.W.codeIn K (.ref c) qual = true) (S : FnScope N ps (defScope st))
    (B : Binds K (PySem.W.fnOf x qual (defArgs st) (defBody st) (defScope st) .none kV doc pm an (.ref c) ct) ps []) (len : ∀ vs H Q E, sp vs H Q E → vs.length = ps.length)
    (go : ∀ (A : Around) (outer : List Env) (s : Shared) (H : Hp) (vs : List V) (Q : VK) (E : XK), (A.deeper (envOfC qual (defScope st) s.heap.objs.size f (.ref c))).guards = some [] → Room k (A.deeper (envOfC qual (defScope st) s.heap.objs.size f (.ref c))) → sp vs H Q E →
      ∃ t, PSs (cxOf CX0 P w K mg base N qual (defScope st) f (.ref c) A outer s H E).nox (defBody st) t ∧ t { nx := fun _ H1 => Q .non H1, rt := Q } (start N vs) H) : FnG P w K mg base CX0 (k + 1) f sp := by
  intro A outer s H us vs Q E hg hr e0 rv hs
  have hl := len _ _ _ _ hs
  have hu : (us ++ []).length = ps.length := by rw [List.append_nil, ← hl]; exact rv.length.symm
  have b := B s us (e0.mod.kin.keeps fun b o z => (e0.bs b o z).1) hu
  rw [List.append_nil] at b
  exact LamX.run_ofS lk hcd S hr e0 b rv hl fun hr1 => by
    obtain ⟨t, ht, q⟩ := go A outer s H vs Q E hg hr1 hs
    exact ⟨t, ht.nox, q⟩
/-- x(e, ..), x such a def -/
theorem pe_callG {X : Cx} {CX : CXT} {k : Nat} {f : Addr} {sp : Sp} {E : XK} {x : Str} {e : Expr} {es : List Expr} {t : TA} {p pos : Pos} (gu : X.A.guards = some []) (F : FnG X.prog X.w X.K X.mg X.base CX k f sp) (hr : Room k X.A) (hk : PySem.W.keepIn X.K (.ref f) = true) (hg : Gl X x) (hm : X.mg x = some (.ref f)) (hx : Passes CX X E)
    (ha : PA X (e :: es) t) (hd : (x == ("__debug__" : Str)) = false := by decide) (he : starEach (e :: es) X.env = (false, eval e X.env) :: starEach es X.env := by rfl) (hpl : (backTo pos (starEach es X.env)).any (·.1) = false := by rfl) :
    PE X (.Call (.Name x p) (e :: es) [] pos) (fun σ H Q => t σ H fun vs H1 => sp vs H1 Q E) := by
  refine ⟨fun pins s σ H Q I h => wpAny_Call_Name_kw (ld_glob I hg hm ?_ hd)⟩
  refine PySem.W.callWith_K (h₀ := X.base) I.ok.mod.kin hk (thn (ha.run pos pins s σ H _ I h) fun us s1 ⟨vs, H1, I1, r, q⟩ => ⟨I1.kIn, wpAny_call ?_⟩) he hpl
  refine codeAny_mono (F X.A X.stack s1 H1 us vs Q E gu hr I1.env0 r q) fun z s2 hz => ?_
  match z, hz with
  | .error er, hz => exact hx pins σ H1 s1 er s2 I1 hz
  | .ok (.ret u), hz => exact I1.after hz
/-! ### the law's entry, with tables of code objects and nothing being shown -/
section
variable {P : Program} {w : World} {K : PySem.W.Frag} {mg mb : Str → Option Value} {a : Addr} {cs : List (Addr × Addr)} {s : Shared} {vs : List Value} {ns : List Int}
open Classical in
/-- what is tracked at the entry: the script, if it is none of the written things, and the tables -/
noncomputable def H1st (K : PySem.W.Frag) (a : Addr) (cs : List (Addr × Addr)) (vs : List Value) (ns : List Int) : Hp := fun b =>
  if b = a ∧ K.lookup a = Option.none then some (.frz ({ cls := .type "list", data := .seq vs.toArray } : Obj) (.lst (ns.map V.int))) else if ∃ p ∈ cs, p.2 = b then some (.tbl #[]) else Option.none
theorem entry (KX : K.In s.heap) (G : s.heap.Ns mainGlobals mg) (Gb : s.heap.Ns builtinsNs mb) (bb : ∀ x : Str, x ≠ "__name__" → mb x = bootBuiltins x) (nl : s.heap.NoLimit) (ng : s.gens = #[])
    (tb : ∀ p ∈ cs, s.heap.get? p.2 = some ({ cls := .none, data := .fields #[] } : Obj)) (tk : ∀ p ∈ cs, K.lookup p.2 = Option.none) (ch : ∀ p ∈ cs, PySem.W.CodeHd s.heap p.1 p.2)
    (bm : ∃ (m : Addr) (o : Obj), mg "__builtins__" = some (.ref m) ∧ m ≠ builtinsNs ∧ s.heap.get? m = some o ∧ o.cls = .type "module" ∧ o.dict = some builtinsNs ∧ o.data = .plain)
    (sc : s.heap.get? a = some ({ cls := .type "list", data := .seq vs.toArray } : Obj)) (iv : IntsAre vs ns) (len : ns.length ≤ sizeLine) :
    ∃ (H : Hp) (base : Heap), K.In base ∧ base.Ns mainGlobals mg ∧ (∀ p ∈ cs, LamX.TabB base mg p.1 p.2) ∧ Env0 P w K mg base callerA [] s H ∧ (∀ p ∈ cs, H p.2 = some (.tbl #[])) ∧ SqL K H a (ns.map V.int) ∧
      ∀ b, H b = Option.none ∨ (∃ p ∈ cs, p.2 = b) ∨ ∃ o xs, H b = some (.frz o (.lst xs)) := by
  have rv := vals_ints iv
  have nt : ¬ ∃ p ∈ cs, p.2 = a := fun ⟨p, hp, e⟩ => by
    have z := tb p hp
    rw [e, sc] at z
    exact nomatch congrArg Obj.data (Option.some.inj z)
  -- what is tracked
  have tr : ∀ b u, H1st K a cs vs ns b = some u → (b = a ∧ K.lookup a = Option.none ∧ u = .frz ({ cls := .type "list", data := .seq vs.toArray } : Obj) (.lst (ns.map V.int))) ∨ ((∃ p ∈ cs, p.2 = b) ∧ u = .tbl #[]) := fun b u h => by
    unfold H1st at h
    split at h
    · rename_i c; exact .inl ⟨c.1, c.2, (Option.some.inj h).symm⟩
    · split at h
      · rename_i c; exact .inr ⟨c, (Option.some.inj h).symm⟩
      · cases h
  have tt : ∀ p ∈ cs, H1st K a cs vs ns p.2 = some (.tbl #[]) := fun p hp => by
    unfold H1st
    rw [if_neg (fun z : p.2 = a ∧ _ => nt ⟨p, hp, z.1⟩), if_pos ⟨p, hp, rfl⟩]
  have un : ∀ b o, s.heap.get? b = some o → (∀ v n, o.data ≠ .seq v n) → o.data ≠ .fields #[] → H1st K a cs vs ns b = Option.none := fun b o e n1 n2 => by
    match q : H1st K a cs vs ns b with
    | Option.none => rfl
    | some u =>
      exfalso
      rcases tr b u q with ⟨z, _, _⟩ | ⟨⟨p, hp, z⟩, _⟩
      · rw [z, sc] at e; cases e; exact n1 _ _ rfl
      · rw [← z, tb p hp] at e; cases e; exact n2 rfl
  have keep : ∀ {b : Addr} {o : Obj}, s.heap.get? b = some o → (∀ v n, o.data ≠ .seq v n) → o.data ≠ .fields #[] → (hidT s.heap (H1st K a cs vs ns)).get? b = some o := fun e n1 n2 => hidT_get e (un _ _ e n1 n2)
  have nsOf : ∀ {b : Addr} {m : Str → Option Value}, s.heap.Ns b m → (hidT s.heap (H1st K a cs vs ns)).Ns b m := fun {b m} ⟨o, es, ep, e, d, r⟩ => ⟨o, es, ep, keep e (fun v n z => by rw [d] at z; cases z) (fun z => by rw [d] at z; cases z), d, r⟩
  have kin : K.In (hidT s.heap (H1st K a cs vs ns)) := fun b o e => hidT_get (KX b o e) (by
    match q : H1st K a cs vs ns b with
    | Option.none => rfl
    | some u =>
      exfalso
      rcases tr b u q with ⟨z, z2, _⟩ | ⟨⟨p, hp, z⟩, _⟩
      · rw [z, z2] at e; cases e
      · rw [← z, tk p hp] at e; cases e)
  have md : L2.Mod K mg (hidT s.heap (H1st K a cs vs ns)) := { kin := kin, glob := nsOf G, blt := ⟨mb, nsOf Gb, bb⟩, nolimit := by obtain ⟨mc, q1, q2⟩ := nl; exact ⟨mc, nsOf q1, q2⟩ }
  have gl : ∀ p ∈ cs, mainGlobals ≠ p.2 := fun p hp z => by
    obtain ⟨o, es, ep, e, d, _⟩ := G
    rw [z, tb p hp] at e
    cases e
    cases d
  refine ⟨H1st K a cs vs ns, hidT s.heap (H1st K a cs vs ns), kin, nsOf G, fun p hp => ⟨?_, ?_, gl p hp⟩, ⟨rfl, md, fun b o e => of_hidT e, Nat.le_of_eq (hidT_size _ _), trivial, fun b hb => (List.not_mem_nil hb).elim, fun b u q => ?_, .of_eq ng⟩, tt, ?_, fun b => ?_⟩
  · obtain ⟨o, us, file, tf, flags, tg, inF, text, tt, q0, q1, q2, q3, rest⟩ := ch p hp
    refine ⟨o, us, file, tf, flags, tg, inF, text, tt, keep q0 (fun v n z => by rw [q2] at z; cases z) (fun z => ?_), q1, q2, q3, rest⟩
    rw [q2] at z
    cases z
    simp at q3
  · obtain ⟨m, o, b1, b2, b3, b4, b5, b6⟩ := bm
    refine ⟨m, o, b1, b2, fun z => ?_, fun z => ?_, keep b3 (fun v n z => by rw [b6] at z; cases z) (fun z => by rw [b6] at z; cases z), b4, b5, b6⟩
    · obtain ⟨o2, es, ep, e, d, _⟩ := G
      rw [z, e] at b3
      cases b3
      rw [d] at b6
      cases b6
    · rw [z, tb p hp] at b3
      cases b3
      cases b6
  · rcases tr b u q with ⟨z, _, z3⟩ | ⟨⟨p, hp, z⟩, z3⟩
    · rw [z, z3]
      exact ⟨sc, by rw [List.length_map]; exact len, vs, _, rv, sc⟩
    · rw [← z, z3]
      exact tb p hp
  · match q : K.lookup a with
    | Option.none => exact .inl (.inr ⟨_, by unfold H1st; rw [if_pos ⟨rfl, q⟩]⟩)
    | some o =>
      have e := KX a o q
      rw [sc] at e
      cases e
      exact .inr ⟨_, vs.toArray, _, q, rfl, rfl, rfl, by rw [List.size_toArray, iv.length]; exact len, by simpa using rv⟩
  · match q : H1st K a cs vs ns b with
    | Option.none => exact .inl rfl
    | some u =>
      rcases tr b u q with ⟨_, _, z3⟩ | ⟨z, _⟩
      · rw [z3]; exact .inr (.inr ⟨_, _, rfl⟩)
      · exact .inr (.inl z)
/-- what stood before the law stands behind it -/
theorem leave {H H2 : Hp} {s2 : Shared} (tb : ∀ p ∈ cs, s.heap.get? p.2 = some ({ cls := .none, data := .fields #[] } : Obj)) (ch : ∀ p ∈ cs, PySem.W.CodeHd s.heap p.1 p.2) (tt : ∀ p ∈ cs, H p.2 = some (.tbl #[]))
    (only : ∀ b, H b = Option.none ∨ (∃ p ∈ cs, p.2 = b) ∨ ∃ o xs, H b = some (.frz o (.lst xs))) (h1 : HOk P w H s.heap) (u : Un (frs []) [] H H2 s.heap s2.heap) (h2 : HOk P w H2 s2.heap) : OldK s.heap s2.heap := by
  have same : ∀ b o, ¬ (∃ p ∈ cs, p.2 = b) → s.heap.get? b = some o → s2.heap.get? b = some o := fun b o n e => by
    rcases only b with z | z | ⟨ob, xs, z⟩
    · exact u.keep b o e z List.not_mem_nil List.not_mem_nil
    · exact (n z).elim
    · have q1 := (h1 b _ z).1
      have q2 := (h2 b _ (u.frzs b ob _ z)).1
      rw [e] at q1
      rw [q2, Option.some.inj q1]
  have more : ∀ p ∈ cs, ∃ ps : Array Value, s2.heap.get? p.2 = some ({ cls := .none, data := .fields ps } : Obj) := fun p hp => by
    obtain ⟨ps, z⟩ := u.tbls p.2 #[] (tt p hp)
    exact ⟨_, h2 p.2 _ z⟩
  refine ⟨fun b o e => ?_, fun b o e => ?_⟩
  all_goals by_cases hb : ∃ p ∈ cs, p.2 = b
  · obtain ⟨p, hp, rfl⟩ := hb
    obtain ⟨ps, z⟩ := more p hp
    have e2 := e
    rw [tb p hp] at e2
    cases e2
    exact .inr (.inl ⟨((ch p hp).tab (tb p hp)).isCodeTable, rfl, #[], ps, rfl, by rw [Array.empty_append]; exact z⟩)
  · exact .inl (same b o hb e)
  · obtain ⟨p, hp, rfl⟩ := hb
    exact ⟨_, (more p hp).choose_spec⟩
  · exact ⟨o, same b o hb e⟩
end
/-- what is shown of the law behind the head: its promise, and the tables that it leans on -/
def LawG (l : PySem.W.OpenLaw) (w : World) (K : PySem.W.Frag) (k : Nat) (mg : Str → Option Value) (fa : Addr) (h : Heap) : Prop :=
  ∃ (cs : List (Addr × Addr)) (sp : Sp), (∀ p ∈ cs, h.get? p.2 = some ({ cls := .none, data := .fields #[] } : Obj)) ∧ (∀ p ∈ cs, K.lookup p.2 = Option.none) ∧ (∀ p ∈ cs, PySem.W.CodeHd h p.1 p.2) ∧
    (∀ (H : Hp) (a : Addr) (ns : List Int), ns.length ≤ 63 → (∀ z ∈ ns, Builtin.Int.intBits z ≤ 1048576) → (∀ p ∈ cs, H p.2 = some (.tbl #[])) → SqL K H a (ns.map V.int) → sp [.ref a] H (fun v _ => v = .bl true) fun _ _ _ => False) ∧
    ∀ base : Heap, K.In base → base.Ns mainGlobals mg → (∀ p ∈ cs, LamX.TabB base mg p.1 p.2) → FnG l.prog w K mg base CX0 k fa sp
/-- the table of the def x is empty behind the top -/
def TabOf (K : PySem.W.Frag) (mg : Str → Option Value) (h : Heap) (x : Str) : Prop := ∀ (f c P : Addr) (o : Obj) (fd : FuncData) (e : Value) (dd : Option Addr) (vs : Array Value) (sl : Array (Option Value)), mg x = some (.ref f) → K.lookup f = some o → o.data = .func fd → fd.code = .ref c →
  K.lookup c = some ⟨e, dd, .fields vs, sl⟩ → vs[11]? = some (.ref P) → h.get? P = some ({ cls := .none, data := .fields #[] } : Obj) ∧ PySem.W.CodeHd h c P
theorem walkG {l : PySem.W.OpenLaw} {k : Nat} {q : Program} {loose : List Str} {XP : (Str → Option Value) → Heap → Prop} {YP : World → Heap → Prop} {d : DefRec} {K : Params → PySem.W.Frag} (xs : List Str) (hxs : (xs.all fun x => (recsOf q).any fun e => e.name == x) = true)
    (hn : l.most = some 63) (hdf : d.params.defaults = []) (hr : Room k callerA) (hY : ∀ (w : World) (h : Heap), YP w h → (K w.params).In h)
    (F : ∀ (w : World) (mg : Str → Option Value) (fa : Addr) (h : Heap), (K w.params).In h → h.Ns mainGlobals mg → mg d.name = some (.ref fa) → (∀ x ∈ xs, TabOf (K w.params) mg h x) → LawG l w (K w.params) k mg fa h) :
    PySem.W.WalkO q loose XP YP l.row.toRowW d [] (fun f vs => PySem.call f vs) := by
  refine Att.attach_callB hn hdf fun w s₀ s mg mb fa o pm cd doc a vs ns G Y _ _ _ hmg hobj hints hlen hbits hg => ?_
  have KX := hY w _ Y
  have tabs : ∀ x ∈ xs, TabOf (K w.params) mg s.heap x := fun x hx f c P o fd e dd us sl m1 m2 m3 m4 m5 m6 => by
    obtain ⟨r, hr1, hr2⟩ := List.any_eq_true.mp (List.all_eq_true.mp hxs x hx)
    obtain ⟨f2, o2, fd2, c2, P2, t1, t2, t3, t4, t5, t6⟩ := G.T.tab r hr1
    rw [beq_iff_eq.mp hr2, m1] at t1
    cases t1
    rw [KX _ _ m2] at t2
    cases t2
    rw [m3] at t3
    cases t3
    rw [m4] at t4
    cases t4
    have hd := PySem.W.CodeHd.of t5 t6
    obtain ⟨⟨oc, vc, u1, _, u3, u4⟩, hP⟩ := t6
    rw [KX _ _ m5] at u1
    cases u1
    cases u3
    rw [m6] at u4
    cases u4
    exact ⟨hP, hd⟩
  obtain ⟨cs, sp, tb, tk, ch, hsp, FG⟩ := F w mg fa _ KX G.T.g hmg tabs
  obtain ⟨H, base, kin, ns1, TB, e0, tt, hS, only⟩ := entry (P := l.prog) (w := w) KX G.T.g G.T.b G.T.builtins G.T.nolimit hg tb tk ch G.T.bmain hobj hints (Nat.le_trans hlen (by decide))
  refine codeAny_mono (FG base kin ns1 TB callerA [] s H [.ref a] [.ref a] _ _ rfl hr e0 (.cons rfl .nil) (hsp H a ns hlen hbits tt hS)) fun r s2 h => ?_
  match r, h with
  | .ok (.ret u), ⟨v, H2, os, bare, un, hok, rel, e⟩ =>
    have e' : v = .bl true := e
    subst e'
    have eu : u = Value.bool true := rel
    subst eu
    exact ⟨rfl, leave tb ch tt only e0.hok un hok, os, bare⟩

/-! ### repr -/
/-- v is read as the datum d: as Dp, and dicts of no entry or one -/
inductive Dq (K : PySem.W.Frag) (H : Hp) : V → PyData → Prop where
  | dp {v : V} {d : PyData} : Dp K H v d → Dq K H v d
  | d0 {a : Addr} : H a = some (.dK []) → Dq K H (.ref a) (.dict [])
mutual
theorem dp_nodict {K : PySem.W.Frag} {H : Hp} : ∀ (d : PyData) (v : V), Dp K H v d → d.hasDict = false
  | .none, _, _ => rfl
  | .bool _, _, _ => rfl
  | .int _, _, _ => rfl
  | .str _, _, _ => rfl
  | .list ds, _, h => by
    cases h with
    | lst _ ha => exact dp_nodictAll ds _ ha
  | .tuple ds, _, h => by
    cases h with
    | tup _ ha => exact dp_nodictAll ds _ ha
  | .dict _, _, h => by cases h
theorem dp_nodictAll {K : PySem.W.Frag} {H : Hp} : ∀ (ds : List PyData) (vs : List V), DpAll K H vs ds → PyData.hasDictAll ds = false
  | [], _, _ => rfl
  | d :: ds, _, h => by
    cases h with
    | cons h1 h2 =>
      show (PyData.hasDict d || PyData.hasDictAll ds) = false
      rw [dp_nodict d _ h1, dp_nodictAll ds _ h2]
      rfl
end
theorem Dq.reads {X : Cx} {pins : List (Addr × Obj)} {σ : L2.St} {H : Hp} {s : Shared} (I : Inv X pins σ H s) {v : V} {d : PyData} {u : Value} (h : Dq X.K H v d) (r : RelV v u) : ∃ as, Reads s.heap u d as ∧ (d.hasDict = true → sysModules ∉ as) := by
  cases h with
  | dp h =>
    obtain ⟨as, q⟩ := Dp.reads I _ _ _ h r
    exact ⟨as, q, fun z => by rw [dp_nodict _ _ h] at z; cases z⟩
  | @d0 a h =>
    obtain rfl : u = Value.ref a := r
    obtain ⟨_, ns, vs, kv, o, es, ep, e1, e2, e3, e4⟩ := (show ObjOk X.prog X.w H s.heap a (.dK []) from I.hok a _ h)
    cases kv
    have e5 : es.toList = [] := by
      have e6 := e4.2.1
      generalize es.toList = l at e6
      cases e6
      rfl
    refine ⟨[a] ++ [] ++ [], Reads.dict e1 e2.1 e3 (by rw [e5]; exact .nil) (by rw [e5]; exact .nil), fun _ z => ?_⟩
    have z' : sysModules = a := by simpa using z
    rw [← z'] at ns
    simp at ns
def rRep (K : PySem.W.Frag) : List V → Hp → VK → Prop := fun vs H Q => ∃ v d, vs = [v] ∧ Dq K H v d ∧ d.showable = true ∧ d.depth ≤ 60 ∧ ((∃ i, d = .int i) ∨ d.shown.length ≤ sizeLine) ∧ Q (.str d.shown) H
theorem call_rep {X : Cx} (gu : X.A.guards = some []) (hu : X.A.units + 64 < cLine) : CallR X (.builtin "repr") (rRep X.K) := by
  intro pins s σ H xs us Q I r h
  obtain ⟨v, d, rfl, hd, h1, h2, h3, q⟩ := h
  obtain ⟨u, rfl, ru⟩ := vals1 r
  obtain ⟨as, rd, ns⟩ := hd.reads I ru
  have done : ∀ (h' : Heap) (t : Tok) (tk : Nat), (∀ b o, s.heap.get? b = some o → h'.get? b = some o) → EP X pins σ Q (.str d.shown t) { s with heap := h', toks := tk } := fun h' t tk k => ⟨.str d.shown, H, I.kept (t' := tk) k, ⟨t, rfl⟩, q⟩
  have same : ∀ t tk, EP X pins σ Q (.str d.shown t) { s with toks := tk } := fun t tk => done s.heap t tk fun _ _ z => z
  have h3 : (∀ i, d ≠ .int i) → d.shown.length ≤ sizeLine := fun n => h3.resolve_left fun ⟨i, z⟩ => n i z
  cases rd with
  | none => exact PySem.P.repr_of_none (same _ _)
  | bool b => exact PySem.P.repr_of_bool (same _ _)
  | int i t => exact PySem.P.repr_of_int (of_decide_eq_true h1) (same _ _)
  | str x t => exact PySem.P.repr_of_str (same _ _) (h3 fun _ z => nomatch z)
  | list e1 e2 e3 e4 => exact PySem.repr_of_reads' (.list e1 e2 e3 e4) h1 ns gu (by omega) (fun _ _ z => z) (fun h' u tk k => done h' u tk k) (h3 fun _ z => nomatch z)
  | tuple e1 e2 e3 e4 => exact PySem.repr_of_reads' (.tuple e1 e2 e3 e4) h1 ns gu (by omega) (fun _ _ z => z) (fun h' u tk k => done h' u tk k) (h3 fun _ z => nomatch z)
  | dict e1 e2 e3 e4 e5 => exact PySem.repr_of_reads' (.dict e1 e2 e3 e4 e5) h1 ns gu (by omega) (fun _ _ z => z) (fun h' u tk k => done h' u tk k) (h3 fun _ z => nomatch z)

/-- the target a, b within a comprehension: told of the written part and of the number of names -/
theorem pg_tup2 {X : Cx} {es : List Expr} {k : Nat} {t : TGs} {pos : Pos} (K : PySem.W.Frag) (n : Nat) (hK : X.K = K) (hc : X.calm = true) (h : PGs X es t) (hn : (assignEach es X.env).length = n := by rfl) (hst : (assignEach es X.env).findIdx? (·.1) = none := by rfl) : PG X (.Tuple es k pos) (gTup K n t) := by
  subst hK
  exact pg_tup hc h hn hst
theorem ix_tup2 {X : Cx} (K : PySem.W.Frag) (hK : X.K = K) : IxR X (rIxT K) := by
  subst hK
  exact ix_tup
theorem ix_list2 {X : Cx} (K : PySem.W.Frag) (hK : X.K = K) : IxR X (rIxL K) := by
  subst hK
  exact ix_list
theorem op_eqD2 {X : Cx} (K : PySem.W.Frag) (hK : X.K = K) (hu : X.A.units + 64 < cLine) : OpR X (compareOp .Eq) (rEqD K) := by
  subst hK
  exact op_eqD hu
theorem sl_list2 {X : Cx} (K : PySem.W.Frag) (hK : X.K = K) : SlR X (rSlL K) := by
  subst hK
  exact sl_list
theorem op_in_seq2 {X : Cx} (K : PySem.W.Frag) (hK : X.K = K) : OpR X (compareOp .In) (rIn K false) := by
  subst hK
  exact op_in_seq
theorem op_notIn_seq2 {X : Cx} (K : PySem.W.Frag) (hK : X.K = K) : OpR X (compareOp .NotIn) (rIn K true) := by
  subst hK
  exact op_notIn_seq

/-! ### values by kinds; numbers that are refused -/
/-- v is of the built-in kind t -/
inductive NT (H : Hp) : V → String → Prop where
  | non : NT H .non "NoneType"
  | bl (b : Bool) : NT H (.bl b) "bool"
  | int (i : Int) : NT H (.int i) "int"
  | str (x : Str) : NT H (.str x) "str"
  | lst {a : Addr} {xs : List V} : H a = some (.lst xs) → NT H (.ref a) "list"
  | tup {a : Addr} {xs : List V} : H a = some (.tup xs) → NT H (.ref a) "tuple"
  | dic {a : Addr} {kvs : List (Key × V)} : H a = some (.dK kvs) → NT H (.ref a) "dict"
theorem NT.same {H H' : Hp} (s : Same H H') {v : V} {t : String} (h : NT H v t) : NT H' v t := by
  cases h with
  | non => exact .non
  | bl b => exact .bl b
  | int i => exact .int i
  | str x => exact .str x
  | lst e => exact .lst (s _ _ e)
  | tup e => exact .tup (s _ _ e)
  | dic e => exact .dic (s _ _ e)
theorem NT.ty {K : PySem.W.Frag} {H : Hp} {v : V} {t : String} (h : NT H v t) : TyX K H v (.type t) := by
  cases h with
  | non => exact .base .non
  | bl b => exact .base (.bl b)
  | int i => exact .base (.int i)
  | str x => exact .base (.str x)
  | lst e => exact .base (.lst e)
  | tup e => exact .base (.tup e)
  | dic e => exact .base (.dK e)
theorem NT.kit {H : Hp} {v : V} {t : String} (h : NT H v t) : ∃ b1 b2, kitB t "int" = some b1 ∧ kitB t "bool" = some b2 ∧ (b1 && !b2) = (t == "int") := by
  cases h with
  | non => exact ⟨false, false, by decide +kernel, by decide +kernel, by decide +kernel⟩
  | bl b => exact ⟨true, true, by decide +kernel, by decide +kernel, by decide +kernel⟩
  | int i => exact ⟨true, false, by decide +kernel, by decide +kernel, by decide +kernel⟩
  | str x => exact ⟨false, false, by decide +kernel, by decide +kernel, by decide +kernel⟩
  | lst e => exact ⟨false, false, by decide +kernel, by decide +kernel, by decide +kernel⟩
  | tup e => exact ⟨false, false, by decide +kernel, by decide +kernel, by decide +kernel⟩
  | dic e => exact ⟨false, false, by decide +kernel, by decide +kernel, by decide +kernel⟩
theorem NT.tupB {H : Hp} {v : V} {t : String} (h : NT H v t) : kitB t "tuple" = some (t == "tuple") := by
  cases h <;> decide +kernel
theorem NT.isInt {H : Hp} {v : V} {t : String} (h : NT H v t) (e : t = "int") : ∃ i, v = .int i := by
  cases h with
  | int i => exact ⟨i, rfl⟩
  | _ => exact absurd e (by decide)
/-- def f(*v) of the text, which may raise -/
theorem star_okX {x qual pv : Str} {k : Nat} {st : Stmt} {f : Addr} {fd : FuncData} {N : List Str} {sp : List V → Hp → VK → XK → Prop}
    (F : Fun K x qual st f fd) (S : FnScope N [pv] (defScope st))
    (hb : ∀ (kV doc pm : Value) (an : Option Addr) (cdv ct : Value) (rest : List Value), bindArgs (PySem.W.fnOf x qual (defArgs st) (defBody st) (defScope st) .none kV doc pm an cdv ct) { pos := rest, kw := [] } = (newTuple rest >>= fun t => pure [(pv, t)]))
    (go : ∀ (cdv : Value) (A : Around) (outer : List Env) (s : Shared) (H : Hp) (vs : List V) (p : Addr) (H0 : Hp) (Q : VK) (E : XK), Room k (A.deeper (envOfC qual (defScope st) s.heap.objs.size f cdv)) → sp vs H0 Q E → vs.length ≤ sizeLine → H0 p = Option.none → H = upd H0 p (.tup vs) →
      ∃ t, PSs (cxOf (L2.CX P w) P w K mg base N qual (defScope st) f cdv A outer s H E) (defBody st) t ∧ t { nx := fun _ H1 => Q .non H1, rt := Q } (start N [V.ref p]) H) :
    FnR P w K mg base (L2.CX P w) (k + 1) f (fun vs H Q E => vs.length ≤ sizeLine ∧ sp vs H Q E) := by
  obtain ⟨oc, od, kV, doc, pm, an, cdv, ct, osl, e, lk, hcd⟩ := F.ex
  subst e
  refine FnR.imp (fn_star (ps := []) (pv := pv) (CX := L2.CX P w) (sp := fun ws H Q E => ∃ (vs : List V) (p : Addr) (H0 : Hp), ws = [V.ref p] ∧ sp vs H0 Q E ∧ vs.length ≤ sizeLine ∧ H0 p = Option.none ∧ H = upd H0 p (.tup vs)) lk hcd S cxUp (fun us rest hl => ?_) fun A outer s H vs Q E hr h => ?_) fun vs H Q E h => ?_
  · have e : us = [] := List.length_eq_zero_iff.mp hl
    subst e
    show bindArgs _ { pos := rest, kw := [] } = _
    rw [hb]
    rfl
  · obtain ⟨ws, p, H0, rfl, hs, hl, hp, rfl⟩ := h
    exact go cdv A outer s _ ws p H0 Q E hr hs hl hp rfl
  · exact ⟨[], vs, rfl, rfl, h.1, fun p hp => ⟨vs, p, H, rfl, h.2, h.1, hp, rfl⟩⟩

/-! ### the error BadWheel -/
/-- what the written part says of BadWheel, at C, and of its __init__ -/
structure BadW (K : PySem.W.Frag) (mg : Str → Option Value) where
  C : Addr
  f : Addr
  fd : FuncData
  oex : OexC K C
  iC : PySem.W.findIn K (.ref C) "__init__" = some (some (.ref f))
  tI : PySem.W.typeIn K (.ref f) = some (.type "function")
  F : Fun K "__init__" "BadWheel.__init__" s_BadWheel_init f fd
  no : PySem.W.findIn K (.ref C) "part" = some Option.none
  m : mg "BadWheel" = some (.ref C)
/-- the init of an error of one field -/
def spInit1 (K : PySem.W.Frag) (f : Str) : Sp := fun vs H Q _ => ∃ (a C : Addr) (v : V), vs = [.ref a, v] ∧ OexC K C ∧ PySem.W.findIn K (.ref C) f = some Option.none ∧ H a = some (exo a C Option.none) ∧
  ∀ dx, H dx = Option.none → dx ≠ a → Q .non (upd (upd H dx (exd dx [(f, v)])) a (exo a C (some dx)))
theorem ok_badW_init (B : BadW K mg) : FnOk P w K mg base CX0 1 B.f B.fd ["self", "part"] (spInit1 K "part") := by
  refine B.F.ok sc_BadWheel_init (fun vs H Q E h => ?_) (fun cdv A outer s H vs Q E hr h => ?_)
  · obtain ⟨a, C, v, rfl, _⟩ := h; rfl
  · obtain ⟨a, C, v, rfl, T, no, ha, k⟩ := h
    refine ⟨_, pss_one (ps_ost (pv 0) (pv 1)), ?_⟩
    exact ⟨_, rfl, _, rfl, a, C, rfl, T, no, .inl ⟨ha, k⟩⟩
theorem b_badW (B : BadW K mg) : Binds K B.fd ["self", "part"] [] := B.F.binds (ps := ["self", "part"]) fun _ _ _ _ _ _ us hl => match us, hl with | [_, _], _ => rfl
theorem pmk_badW {X : Cx} {x : Expr} {te : TE} {p pos : Pos} (B : BadW X.K X.mg) (hr : Room 2 X.A) (hg : Gl X "BadWheel") (he : PE X x te)
    (hs : starEach (x :: []) X.env = (false, eval x X.env) :: starEach [] X.env := by rfl) (hpl : (backTo pos (starEach [] X.env)).any (·.1) = false := by rfl) : PMk X (.Call (.Name "BadWheel" p) [x] [] pos) (tMkO B.C (spInit1 X.K "part") [] (tCons te tNil)) :=
  pmk_oex (CX := CX0) (dvs := []) (ds := []) B.oex B.iC B.tI (ok_badW_init B) hr (b_badW B) .nil (fun _ _ _ _ _ _ _ z => z.elim) hg B.m (pa_cons he pa_nil hs) (by decide) hs hpl
/-- how its reading is answered -/
theorem badW_fin (B : BadW K mg) {H : Hp} {a : Addr} {v : V} {Q : XK} (ha : H a = Option.none) (k : ∀ (d : Addr) (H2 : Hp), Same H H2 → H d = Option.none → H2 d = some (.xd [("part", v)]) → Q (.ref B.C) (some d) H2) :
    spInit1 K "part" (.ref a :: ([v] ++ [])) (upd H a (exo a B.C Option.none)) (fun v' H2 => v' = .non ∧ ∃ (d : Addr) (fs : List (Str × V)), H2 a = some (exo a B.C (some d)) ∧ H2 d = some (exd d fs) ∧ H d = Option.none ∧ Q (.ref B.C) (some d) (upd (del H2 a) d (.xd fs))) (fun _ _ _ => False) := by
  refine ⟨a, B.C, v, rfl, B.oex, B.no, upd_same, fun dx h1 h2 => ⟨rfl, dx, _, upd_same, by rw [upd_ne h2, upd_same], ?_, ?_⟩⟩
  · rw [upd_ne h2] at h1; exact h1
  · have hd : H dx = Option.none := by rw [upd_ne h2] at h1; exact h1
    refine k dx _ (fun b o e => ?_) hd upd_same
    have n1 := ne_of_none e ha
    have n2 := ne_of_none e hd
    rw [upd_ne n2, del_ne n1, upd_ne n1, upd_ne n2, upd_ne n1]
    exact e

/-- e.f, a property of the object's class, whichever that is -/
def tPropW (K : PySem.W.Frag) (f : Str) (p g : Addr) (sp : Sp) (dvs : List V) (E : XK) (ta : TE) : TE := fun σ H Q => ta σ H fun x H1 => ∃ a C dx fs, x = .ref a ∧ H1 a = some (.ins C dx fs) ∧ Cls K C ∧ PropOf K C f p g ∧ sp (.ref a :: dvs) H1 Q E
theorem pe_propW {X : Cx} {CX : CXT} {k : Nat} {g : Addr} {f : Str} {fd : FuncData} {ps : List Str} {sp : Sp} {dvs : List V} {ds : List Value} {E : XK} {e : Expr} {pos : Pos} {ta : TE} (he : PE X e ta) (p : Addr) (F : FnOk X.prog X.w X.K X.mg X.base CX k g fd ps sp) (hr : Room (k + 1) X.A) (hb : Binds X.K fd ps ds) (hd : Vals dvs ds) (hx : Passes CX X.nox E)
    (hab : attributeBase e f X.env (eval e X.env) = eval e X.env) : PE X (.Attribute e f pos) (tPropW X.K f p g sp dvs E ta) := by
  refine ⟨fun pins s σ H Q I h => ?_⟩
  refine attr_of hab (thn (he.run pins s σ H _ I h) fun u s1 ⟨x, H1, I1, rx, a, C, dx, fs, ex, ea, c, hp, q⟩ => ?_)
  subst ex
  obtain rfl : u = Value.ref a := rx
  exact getprop_ok I1 ea c hp F hr hb hd hx q

/-! ### classes: made by a def with a star, static methods -/
/-- def f(p1, p2, *v) of the text -/
theorem star2_ok {x qual p1 p2 pv : Str} {k : Nat} {st : Stmt} {f : Addr} {fd : FuncData} {N : List Str} {sp : V → V → List V → Hp → VK → XK → Prop}
    (F : Fun K x qual st f fd) (S : FnScope N [p1, p2, pv] (defScope st))
    (hb : ∀ (kV doc pm : Value) (an : Option Addr) (cdv ct : Value) (a b : Value) (rest : List Value), bindArgs (PySem.W.fnOf x qual (defArgs st) (defBody st) (defScope st) .none kV doc pm an cdv ct) ⟨a :: b :: rest, []⟩ = (newTuple rest >>= fun t => pure [(p1, a), (p2, b), (pv, t)]))
    (go : ∀ (cdv : Value) (A : Around) (outer : List Env) (s : Shared) (H : Hp) (a b : V) (vs : List V) (p : Addr) (H0 : Hp) (Q : VK) (E : XK), Room k (A.deeper (envOfC qual (defScope st) s.heap.objs.size f cdv)) → sp a b vs H0 Q E → vs.length ≤ sizeLine → H0 p = Option.none → H = upd H0 p (.tup vs) →
      ∃ t, PSs (cxOf CX0 P w K mg base N qual (defScope st) f cdv A outer s H E).nox (defBody st) t ∧ t { nx := fun _ H1 => Q .non H1, rt := Q } (start N [a, b, V.ref p]) H) :
    FnR P w K mg base CX0 (k + 1) f (fun vs H Q E => ∃ a b rest, vs = a :: b :: rest ∧ rest.length ≤ sizeLine ∧ sp a b rest H Q E) := by
  obtain ⟨oc, od, kV, doc, pm, an, cdv, ct, osl, e, lk, hcd⟩ := F.ex
  subst e
  refine FnR.imp (fn_star (ps := [p1, p2]) (pv := pv) (CX := CX0) (sp := fun ws H Q E => ∃ (a b : V) (vs : List V) (p : Addr) (H0 : Hp), ws = [a, b, V.ref p] ∧ sp a b vs H0 Q E ∧ vs.length ≤ sizeLine ∧ H0 p = Option.none ∧ H = upd H0 p (.tup vs)) lk hcd S cxUp_none (fun us rest hl => ?_) fun A outer s H vs Q E hr h => ?_) fun vs H Q E h => ?_
  · match us, hl with
    | [a, b], _ =>
      show bindArgs _ { pos := a :: b :: rest, kw := [] } = _
      rw [hb]
      rfl
  · obtain ⟨a, b, ws, p, H0, rfl, hs, hl, hp, rfl⟩ := h
    obtain ⟨t, ht, hq⟩ := go cdv A outer s _ a b ws p H0 Q E hr hs hl hp rfl
    exact ⟨t, ht.nox, hq⟩
  · obtain ⟨a, b, rest, rfl, hl, hs⟩ := h
    exact ⟨[a, b], rest, rfl, rfl, hl, fun p hp => ⟨a, b, rest, p, H, rfl, hs, hl, hp, rfl⟩⟩
/-- C(e, ..), the init told of its arguments as they are passed -/
def tMkR (C : Addr) (sp : Sp) (E : XK) (t : TA) : TE := fun σ H Q => t σ H fun vs H1 => ∀ x dx, H1 x = Option.none → H1 dx = Option.none → dx ≠ x → sp (.ref x :: vs) (upd (upd H1 dx (.own x)) x (.ins C dx [])) (fun v H2 => v = .non ∧ Q (.ref x) H2) E
section
variable {X : Cx} {CX : CXT} {k : Nat} {f C p g : Addr} {sp : Sp} {E : XK} {x m : Str} {e o : Expr} {es : List Expr} {kws : List Keyword} {ta : TE} {t tk : TA} {pos apos q : Pos} {mc : Value}
theorem run_mkR {pins : List (Addr × Obj)} {σ : L2.St} {H : Hp} {s : Shared} {Q : VK} {us : List Value} {vs : List V} (M : Mk X.K C f) (F : FnR X.prog X.w X.K X.mg X.base CX k f sp) (hr : Room (k + 1) X.A) (hx : Passes CX X E) (I : Inv X pins σ H s) (r : Vals vs us)
    (h : ∀ x dx, H x = Option.none → H dx = Option.none → dx ≠ x → sp (.ref x :: vs) (upd (upd H dx (.own x)) x (.ins C dx [])) (fun v H2 => v = .non ∧ Q (.ref x) H2) E) : wpAny (model X.prog X.w) X.A (call (.ref C) us) (EP X pins σ Q) X.xe s := by
  have hq := h (s.heap.objs.size + 1) s.heap.objs.size (I.hok.fresh (Nat.le_succ _)) (I.hok.fresh (Nat.le_refl _)) (Nat.ne_of_lt (Nat.lt_succ_self _))
  have I2 := Inv.made (C := C) I
  have r1 : Vals (V.ref (s.heap.objs.size + 1) :: vs) (Value.ref (s.heap.objs.size + 1) :: us) := .cons rfl r
  refine wpAny_call (make_map (f := f) I.kIn M.makes M.init (beq_iff_eq.mp M.fn) (codeAny_mono (F _ X.stack _ _ (Value.ref (s.heap.objs.size + 1) :: us) _ _ E (hr.make C us []) (I2.env0.make C us []) r1 hq) fun r s2 hz => ?_))
  match r, hz with
  | .error er, hz => exact hx pins σ _ _ er s2 I2 hz
  | .ok (.ret u), hz =>
    obtain ⟨v, H3, I3, rv, ev, q3⟩ := I2.after hz
    subst ev
    exact ⟨rv, ⟨V.ref (s.heap.objs.size + 1), H3, I3, rfl, q3⟩⟩
theorem pe_mkR (M : Mk X.K C f) (F : FnR X.prog X.w X.K X.mg X.base CX k f sp) (hr : Room (k + 1) X.A) (hx : Passes CX X E) (hg : Gl X x) (hm : X.mg x = some (.ref C)) (ha : PA X (e :: es) t)
    (hdb : (x == ("__debug__" : Str)) = false := by decide) (he : starEach (e :: es) X.env = (false, eval e X.env) :: starEach es X.env := by rfl) (hpl : (backTo pos (starEach es X.env)).any (·.1) = false := by rfl) : PE X (.Call (.Name x q) (e :: es) [] pos) (tMkR C sp E t) := by
  refine ⟨fun pins s σ H Q I h => wpAny_Call_Name_kw (ld_glob I hg hm ?_ hdb)⟩
  refine PySem.W.callWith_K (h₀ := X.base) I.ok.mod.kin M.kp (thn (ha.run pos pins s σ H _ I h) fun us s1 ⟨vs, H1, I1, r, q⟩ => ⟨I1.kIn, ?_⟩) he hpl
  exact run_mkR M F hr hx I1 r q
/-- C.m is a static method: its record at p, its def at g -/
structure CStat (K : PySem.W.Frag) (C : Addr) (mc : Value) (m : Str) (p g : Addr) : Prop where
  at_ : PySem.W.findCls K (.ref C) mc m = some (.get (.builtin "staticmethod.__get__") (.ref p) .none (.ref C))
  rc : ∃ rest, PySem.W.recIn K p "staticmethod" = some (.ref g :: rest)
  kp : PySem.W.keepIn K (.ref g) = true
theorem getmethst_ok {pins : List (Addr × Obj)} {σ : L2.St} {H : Hp} {s : Shared} {A : Around} {E : Value → Shared → Prop} {pl : Sem Bool} {Q : Value × List Value → Shared → Prop} (I : Inv X pins σ H s) (r : ClX.CRead X.K C mc) (k : CStat X.K C mc m p g)
    (h : ∀ s', Inv X pins σ H s' → Q (.ref g, []) s') : wpAny (model X.prog X.w) A (getMethod (.ref C) m pl) Q E s := by
  obtain ⟨rest, hp⟩ := k.rc
  refine PySem.W.method_cls I.kIn r.ga (PySem.W.cls_bind I.kIn r.rd k.at_ ?_)
  exact wpAny_call (PySem.W.sm_get (s := { s with toks := s.toks + 1 }) I.kIn hp (PySem.W.handed_on rfl (h _ (I.tok _))))
/-- C.m(e, ..) -/
def tStat (C : Addr) (sp : Sp) (E : XK) (ta : TE) (t : TA) : TE := fun σ H Q => ta σ H fun x H1 => x = .ref C ∧ t σ H1 fun vs H2 => sp vs H2 Q E
theorem pe_stat {pl : Sem Bool} (he : PE X o ta) (r : ClX.CRead X.K C mc) (c : CStat X.K C mc m p g) (F : FnR X.prog X.w X.K X.mg X.base CX k g sp) (hr : Room k X.A) (hx : Passes CX X E) (ha : PA X (e :: es) t)
    (hst : starEach (e :: es) X.env = (false, eval e X.env) :: starEach es X.env := by rfl) (hpl : (backTo pos (starEach es X.env)).any (·.1) = false := by rfl)
    (ht : eval (.Call (.Attribute o m apos) (e :: es) [] pos) X.env = (do
      let ov ← eval o X.env
      standAt apos.atName
      let (f, first) ← holding [ov] (getMethod ov m pl)
      callWith pos f first (backTo pos (starEach (e :: es) X.env)) (backToKw pos (keywordEach [] X.env))) := by rfl) :
    PE X (.Call (.Attribute o m apos) (e :: es) [] pos) (tStat C sp E ta t) := by
  refine ⟨fun pins s σ H Q I h => PySem.W.methodCall_KW (pl := pl) (thn (he.run pins s σ H _ I h) fun u s1 ⟨x, H1, I1, rx, ex, q⟩ => ?_) ht⟩
  subst ex
  obtain rfl : u = Value.ref C := rx
  refine getmethst_ok I1 r c fun s2 I2 => ?_
  refine PySem.W.callWith_K (h₀ := X.base) I.ok.mod.kin c.kp (thn (ha.run pos pins s2 σ H1 _ I2 q) fun us s3 ⟨vs, H2, I3, rv, q2⟩ => ⟨I3.kIn, ?_⟩) hst hpl
  exact wpAny_call (run_fnR F hr hx I3 rv q2)
theorem pe_stat0 {pl : Sem Bool} (he : PE X o ta) (r : ClX.CRead X.K C mc) (c : CStat X.K C mc m p g) (F : FnR X.prog X.w X.K X.mg X.base CX k g sp) (hr : Room k X.A) (hx : Passes CX X E)
    (ht : eval (.Call (.Attribute o m apos) [] [] pos) X.env = (do
      let ov ← eval o X.env
      standAt apos.atName
      let (f, first) ← holding [ov] (getMethod ov m pl)
      callWith pos f first (backTo pos (starEach [] X.env)) (backToKw pos (keywordEach [] X.env))) := by rfl) :
    PE X (.Call (.Attribute o m apos) [] [] pos) (tStat C sp E ta tNil) := by
  refine ⟨fun pins s σ H Q I h => PySem.W.methodCall_KW (pl := pl) (thn (he.run pins s σ H _ I h) fun u s1 ⟨x, H1, I1, rx, ex, q⟩ => ?_) ht⟩
  subst ex
  obtain rfl : u = Value.ref C := rx
  refine getmethst_ok I1 r c fun s2 I2 => ?_
  exact PySem.W.callWith_K0 I2.kIn c.kp (wpAny_call (run_fnR (us := []) F hr hx I2 .nil q))
/-- C.m(k = v, ..) -/
theorem pe_statK {pl : Sem Bool} {fd : FuncData} {ps ks : List Str} {gu : List Value → List Value → List Value} {gV : List V → List V → List V} (he : PE X o ta) (r : ClX.CRead X.K C mc) (c : CStat X.K C mc m p g) (F : FnOk X.prog X.w X.K X.mg X.base CX k g fd ps sp) (hr : Room k X.A)
    (hb : KBinds X.K fd ps ks gu gV) (hx : Passes CX X E) (hkw : PK X kws tk) (hall : (backToKw pos (keywordEach kws X.env)).all (·.1.isSome) = true := by rfl) (hks : (backToKw pos (keywordEach kws X.env)).filterMap (·.1) = ks := by rfl)
    (hpl : ((backTo pos (starEach [] X.env)).any (·.1) || (backToKw pos (keywordEach kws X.env)).any (·.1.isNone)) = false := by rfl)
    (ht : eval (.Call (.Attribute o m apos) [] kws pos) X.env = (do
      let ov ← eval o X.env
      standAt apos.atName
      let (f, first) ← holding [ov] (getMethod ov m pl)
      callWith pos f first (backTo pos (starEach [] X.env)) (backToKw pos (keywordEach kws X.env))) := by rfl) :
    PE X (.Call (.Attribute o m apos) [] kws pos) (tStat C (fun zs => sp (gV [] zs)) E ta tk) := by
  refine ⟨fun pins s σ H Q I h => PySem.W.methodCall_KW (pl := pl) (thn (he.run pins s σ H _ I h) fun u s1 ⟨x, H1, I1, rx, ex, q⟩ => ?_) ht⟩
  subst ex
  obtain rfl : u = Value.ref C := rx
  refine getmethst_ok I1 r c fun s2 I2 => ?_
  refine PySem.W.callWith_KW0 (h₀ := X.base) I.ok.mod.kin c.kp hall (thn (hkw.run pos pins s2 σ H1 _ I2 q) fun ws s3 ⟨zs, H2, I3, rz, q2⟩ => ⟨I3.kIn, ?_⟩) hpl
  rw [hks]
  exact run_fnk (us := []) F hr hb hx I3 .nil rz q2
end

/-! ### what an own class says of in, not in, ==, len, truth -/
section
variable {X : Cx} {CX : CXT} {k : Nat} {C f : Addr} {fd : FuncData} {ps : List Str} {sp : Sp} {E : XK}
/-- an instance as the walk knows it -/
theorem ins_at {pins : List (Addr × Obj)} {σ : L2.St} {H : Hp} {s : Shared} {a dx : Addr} {fs : List (Str × V)} (I : Inv X pins σ H s) (e : H a = some (.ins C dx fs)) : ∃ (o : Obj) (od : Option Obj), PySem.W.InstAt s.heap a o C od := by
  obtain ⟨mA, O, _, _, _, _⟩ := ins_get I.hok e
  obtain ⟨od, J, _⟩ := O.look
  exact ⟨_, _, J⟩
/-- x in a: the own __contains__ answers a truth -/
def rInO (C : Addr) (sp : Sp) (E : XK) : R2 := fun x y H Q => ∃ (a dx : Addr) (fs : List (Str × V)), y = .ref a ∧ H a = some (.ins C dx fs) ∧ sp [.ref a, x] H (fun v H' => ∃ b, v = .bl b ∧ Q (.bl b) H') E
def rNotInO (C : Addr) (sp : Sp) (E : XK) : R2 := fun x y H Q => ∃ (a dx : Addr) (fs : List (Str × V)), y = .ref a ∧ H a = some (.ins C dx fs) ∧ sp [.ref a, x] H (fun v H' => ∃ b, v = .bl b ∧ Q (.bl (!b)) H') E
theorem op_inO (F : FnOk X.prog X.w X.K X.mg X.base CX k f fd ps sp) (hr : Room k X.A) (hb : Binds X.K fd ps []) (hx : Passes CX X E) (hs : PySem.W.findIn X.K (.ref C) "__contains__" = some (some (.ref f))) (hf : PySem.W.isFn X.K (.ref f) = true) : OpR X (compareOp .In) (rInO C sp E) := by
  intro pins s σ H x y v u Q I rx ry h
  obtain ⟨a, dx, fs, rfl, ha, q⟩ := h
  obtain rfl : u = Value.ref a := ry
  obtain ⟨o, od, J⟩ := ins_at I ha
  obtain ⟨m, hF⟩ := I.fr
  refine PySem.W.in_K hF I.ok.mod.kin J hs hf (thn (run_fn (us := [.ref a, v]) (vs := [.ref a, x]) F hr hb .nil hx I (.cons rfl (.cons rx .nil)) q) fun r s1 z => ?_)
  obtain ⟨w, H1, I1, rw1, b, rfl, q1⟩ := z
  cases rw1
  exact wpAny_truthy_bool ⟨.bl b, H1, I1, rfl, q1⟩
theorem op_notInO (F : FnOk X.prog X.w X.K X.mg X.base CX k f fd ps sp) (hr : Room k X.A) (hb : Binds X.K fd ps []) (hx : Passes CX X E) (hs : PySem.W.findIn X.K (.ref C) "__contains__" = some (some (.ref f))) (hf : PySem.W.isFn X.K (.ref f) = true) : OpR X (compareOp .NotIn) (rNotInO C sp E) := by
  intro pins s σ H x y v u Q I rx ry h
  obtain ⟨a, dx, fs, rfl, ha, q⟩ := h
  obtain rfl : u = Value.ref a := ry
  obtain ⟨o, od, J⟩ := ins_at I ha
  obtain ⟨m, hF⟩ := I.fr
  refine PySem.W.notIn_K hF I.ok.mod.kin J hs hf (thn (run_fn (us := [.ref a, v]) (vs := [.ref a, x]) F hr hb .nil hx I (.cons rfl (.cons rx .nil)) q) fun r s1 z => ?_)
  obtain ⟨w, H1, I1, rw1, b, rfl, q1⟩ := z
  cases rw1
  exact wpAny_truthy_bool ⟨.bl (!b), H1, I1, rfl, q1⟩
/-- a == b, both instances of the class -/
def rEqO (C : Addr) (sp : Sp) (E : XK) : R2 := fun x y H Q => ∃ (a b dx dy : Addr) (fs gs : List (Str × V)), x = .ref a ∧ y = .ref b ∧ H a = some (.ins C dx fs) ∧ H b = some (.ins C dy gs) ∧ sp [.ref a, .ref b] H (fun v H' => ∃ b, v = .bl b ∧ Q (.bl b) H') E
theorem op_eqO (F : FnOk X.prog X.w X.K X.mg X.base CX k f fd ps sp) (hr : Room k X.A) (hb : Binds X.K fd ps []) (hx : Passes CX X E) (hs : PySem.W.findIn X.K (.ref C) "__eq__" = some (some (.ref f))) (hf : PySem.W.isFn X.K (.ref f) = true) : OpR X (compareOp .Eq) (rEqO C sp E) := by
  intro pins s σ H x y v u Q I rx ry h
  obtain ⟨a, b, dx, dy, fs, gs, rfl, rfl, ha, hb2, q⟩ := h
  obtain rfl : v = Value.ref a := rx
  obtain rfl : u = Value.ref b := ry
  obtain ⟨o, od, J⟩ := ins_at I ha
  obtain ⟨o2, od2, J2⟩ := ins_at I hb2
  obtain ⟨m, hF⟩ := I.fr
  show wpAny (model X.prog X.w) X.A (richCompare .Eq (.ref a) (.ref b)) (EP X pins σ Q) X.xe s
  refine PySem.W.cmp_K (op := .Eq) (tb := .ref C) hr.units0 hF I.ok.mod.kin J J2.type (by simp [PySem.W.notFirst]) hs hf (thn (run_fn (us := [.ref a, .ref b]) (vs := [.ref a, .ref b]) F hr hb .nil hx I (.cons rfl (.cons rfl .nil)) q) fun r s1 z => ?_)
  obtain ⟨w, H1, I1, rw1, c, rfl, q1⟩ := z
  cases rw1
  exact ⟨.bl c, H1, I1, rfl, q1⟩
/-- len(a) -/
def rLenO (C : Addr) (sp : Sp) (E : XK) : List V → Hp → VK → Prop := fun xs H Q => ∃ (a dx : Addr) (fs : List (Str × V)), xs = [.ref a] ∧ H a = some (.ins C dx fs) ∧ sp [.ref a] H (fun v H' => ∃ n : Int, v = .int n ∧ 0 ≤ n ∧ n < 2 ^ 63 ∧ Q (.int n) H') E
end
/-! ### len, !=, truth of an own class -/
section
variable {prog : Program} {w : World} {A : Around} {E : Value → Shared → Prop} {s : Shared} {K : PySem.W.Frag} {x C L f : Addr} {h₀ : Heap} {m : Str → Option Value} {ox : Obj} {od : Option Obj} {b tb : Value}
theorem neO_entry {Q : Fin → Shared → Prop} (hu : A.units < cLine) (X : K.In s.heap) (I : PySem.W.InstAt s.heap x ox C od) (hs : PySem.W.findIn K (.ref C) "__eq__" = some (some (.ref f))) (hf : PySem.W.isFn K (.ref f) = true)
    (hcall : wpAny (model prog w) A (call (.ref f) [.ref x, b]) (fun v s' => ∃ c, v = .bool c ∧ Q (.done (.ret (.bool (!c)))) s') E s) :
    wpAny (model prog w) A (Builtin.«object.__ne__» ⟨[.ref x, b], []⟩) Q E s := by
  unfold Builtin.«object.__ne__»
  repeat (first
    | with_reducible refine wpAny_cRoomFor hu ?_
    | (refine wpAny_bind (m := callSpecialIfBound? (.ref x) (Str.ofString "__eq__") [b])
        (PySem.W.ifBound_K X I hs hf (wpAny_mono hcall (fun r s' hr => by
          obtain ⟨c, rfl, hq⟩ := hr
          repeat (first | exact hq | exact wpAny_pure hq | exact wpAny_truthy_bool hq | (refine wpAny_bind (m := truthy (.bool _)) (wpAny_truthy_bool ?_)) | wp_step)) fun _ _ e => e)))
    | wp_step)
theorem ifBound_objNe {M : Model} {args : List Value} {Q : Option Value → Shared → Prop} (X : K.In s.heap) (I : PySem.W.InstAt s.heap x ox C od) (hs : PySem.W.findIn K (.ref C) "__ne__" = some (some (.builtin "object.__ne__")))
    (h : wpAny M A (call (.builtin "object.__ne__") (.ref x :: args)) (fun v => Q (some v)) E s) : wpAny M A (callSpecialIfBound? (.ref x) "__ne__" args) Q E s := by
  simp only [callSpecialIfBound?, bindSpecialIfBound?]
  refine wpAny_holding (wpAny_bind (wpAny_bind (wpAny_bind (I.type.here ((PySem.W.looks_findIn X hs).here ?_)))))
  refine wpAny_bind (wpAny_askSetting (wpAny_ite ?_))
  have fin : wpAny M A (call (.builtin "object.__ne__") ([.ref x] ++ args) >>= fun v => pure (some v)) Q E s := wpAny_bind (wpAny_mono h (fun v s' h' => wpAny_pure h') fun _ _ h' => h')
  split
  · exact wpAny_bind (wpAny_of_eq (F.cmp_object.ne.bind _) (wpAny_pure (by exact fin)))
  · exact wpAny_tryCatch (wpAny_bind (wpAny_of_eq (F.cmp_object.ne.bind _) (wpAny_pure (by exact fin))))
theorem ne_own {Q : Value → Shared → Prop} (hu : A.units + 1 < cLine) (F : PyProof.Rows.Fr h₀ L s.heap m) (X₀ : K.In h₀) (I : PySem.W.InstAt s.heap x ox C od) (hb : PySem.W.Looks (model prog w) s.heap (typeOf b) tb) (hn : PySem.W.notFirst K C tb = true)
    (hm : PySem.W.mroIn K C (.type "object") = some true) (he : PySem.W.findIn K (.ref C) "__ne__" = some (some (.builtin "object.__ne__")))
    (hs : PySem.W.findIn K (.ref C) "__eq__" = some (some (.ref f))) (hf : PySem.W.isFn K (.ref f) = true)
    (h : wpAny (model prog w) A.in1 (call (.ref f) [.ref x, b]) (fun v s' => ∃ c, v = .bool c ∧ Q (.bool (!c)) s') E s) : wpAny (model prog w) A (richCompare .NotEq (.ref x) b) Q E s := by
  have X := X₀.keeps F.keep
  have one : wpAny (model prog w) A (tryCompare (.ref x) (cmpInfo .NotEq).2.1 b) (fun r s' => ∃ v, r = some v ∧ Q v s') E s := by
    unfold tryCompare
    refine wpAny_bind (ifBound_objNe X I he (wpAny_call (codeAny_call_builtin PySem.F.cmp_object.ne.plain PySem.F.cmpEntry_ne (PySem.W.check_slot PySem.F.cmpKind_ne PySem.F.cmpSplit_ne (I.type.andThen (PySem.W.looks_mroIn X hm)) (PySem.F.cmpArgs_ne _ _)
      (neO_entry (A := A.in1) hu X I hs hf (wpAny_mono h (fun v s' hv => ?_) fun _ _ e => e))))))
    obtain ⟨c, rfl, hq⟩ := hv
    exact ⟨c, rfl, wpAny_pure ⟨_, rfl, hq⟩⟩
  unfold richCompare
  simp only [oneThing_ref]
  refine wpAny_holding (wpAny_bind (wpAny_cRoomFor (Nat.lt_of_succ_lt hu) ?_))
  refine wpAny_bind (I.type.here (wpAny_bind (hb.here ?_)))
  split
  · rename_i q
    have e : PySem.W.subIn K tb (.ref C) = some false := by
      rcases Bool.or_eq_true_iff.mp hn with e | e
      · rw [beq_iff_eq.mp e] at q; simp at q
      · exact beq_iff_eq.mp e
    refine wpAny_bind ((PySem.W.looks_subIn X e).here ?_)
    simp only [Bool.false_eq_true, if_false]
    refine wpAny_bind (wpAny_mono one (fun r s' z => ?_) fun _ _ e => e)
    obtain ⟨v, rfl, hq⟩ := z
    exact wpAny_pure hq
  · refine wpAny_bind (wpAny_pure ?_)
    simp only [Bool.false_eq_true, if_false]
    refine wpAny_bind (wpAny_mono one (fun r s' z => ?_) fun _ _ e => e)
    obtain ⟨v, rfl, hq⟩ := z
    exact wpAny_pure hq
end
section
variable {X : Cx} {CX : CXT} {k : Nat} {C f : Addr} {fd : FuncData} {ps : List Str} {sp : Sp} {E : XK}
/-- the callee runs deeper -/
theorem run_fnA {A' : Around} {pins : List (Addr × Obj)} {σ : L2.St} {H : Hp} {s : Shared} {Q : VK} {us : List Value} {vs : List V} (F : FnOk X.prog X.w X.K X.mg X.base CX k f fd ps sp) (hr : Room k A') (hA : ∀ {s : Shared} {H : Hp}, Env0 X.prog X.w X.K X.mg X.base X.A X.stack s H → Env0 X.prog X.w X.K X.mg X.base A' X.stack s H) (hb : Binds X.K fd ps []) (hx : Passes CX X E)
    (I : Inv X pins σ H s) (r : Vals vs us) (h : sp vs H Q E) : wpAny (model X.prog X.w) A' (call (.ref f) us) (EP X pins σ Q) X.xe s := by
  have hl : (us ++ []).length = ps.length := by rw [List.append_nil, ← r.length]; exact F.len _ _ _ _ h
  have hb' := hb s us I.kIn hl
  rw [List.append_nil] at hb'
  refine wpAny_call (codeAny_mono (F.run A' X.stack s H ⟨us, []⟩ us vs Q E hr (hA I.env0) hb' r h) fun r s' hq => ?_)
  cases r with
  | error e => exact hx pins σ H s e s' I hq
  | ok fl =>
    cases fl with
    | ret u => exact I.after hq
    | next => exact False.elim hq
    | brk => exact False.elim hq
    | cont => exact False.elim hq
theorem run_fn1 {pins : List (Addr × Obj)} {σ : L2.St} {H : Hp} {s : Shared} {Q : VK} {us : List Value} {vs : List V} (F : FnOk X.prog X.w X.K X.mg X.base CX k f fd ps sp) (hr : Room (k + 1) X.A) (hb : Binds X.K fd ps []) (hx : Passes CX X E)
    (I : Inv X pins σ H s) (r : Vals vs us) (h : sp vs H Q E) : wpAny (model X.prog X.w) X.A.in1 (call (.ref f) us) (EP X pins σ Q) X.xe s := run_fnA F hr.in1 (fun e => e.in1) hb hx I r h
theorem call_lenO (F : FnOk X.prog X.w X.K X.mg X.base CX k f fd ps sp) (hr : Room (k + 1) X.A) (hb : Binds X.K fd ps []) (hx : Passes CX X E) (hs : PySem.W.findIn X.K (.ref C) "__len__" = some (some (.ref f))) (hf : PySem.W.isFn X.K (.ref f) = true) : CallR X (.builtin "len") (rLenO C sp E) := by
  intro pins s σ H xs us Q I r h
  obtain ⟨a, dx, fs, rfl, ha, q⟩ := h
  obtain ⟨u, rfl, ru⟩ := vals1 r
  obtain rfl : u = Value.ref a := ru
  obtain ⟨o, od, J⟩ := ins_at I ha
  obtain ⟨m, hF⟩ := I.fr
  refine PySem.W.len_K hF I.ok.mod.kin J hs hf (thn (run_fn1 (us := [.ref a]) (vs := [.ref a]) F hr hb hx I (.cons rfl .nil) q) fun v s1 z => ?_)
  obtain ⟨w', H1, I1, rw1, n, rfl, h0, h1, q1⟩ := z
  obtain ⟨t, rfl⟩ := rw1
  exact ⟨⟨h0, h1⟩, .int n, H1, I1.tok _, ⟨_, rfl⟩, q1⟩
/-- a != b, both instances of the class, whose __eq__ is its own -/
def rNeO (C : Addr) (sp : Sp) (E : XK) : R2 := fun x y H Q => ∃ (a b dx dy : Addr) (fs gs : List (Str × V)), x = .ref a ∧ y = .ref b ∧ H a = some (.ins C dx fs) ∧ H b = some (.ins C dy gs) ∧ sp [.ref a, .ref b] H (fun v H' => ∃ b, v = .bl b ∧ Q (.bl (!b)) H') E
theorem op_neO (F : FnOk X.prog X.w X.K X.mg X.base CX k f fd ps sp) (hr : Room (k + 1) X.A) (hb : Binds X.K fd ps []) (hx : Passes CX X E) (hm : PySem.W.mroIn X.K C (.type "object") = some true) (he : PySem.W.findIn X.K (.ref C) "__ne__" = some (some (.builtin "object.__ne__")))
    (hs : PySem.W.findIn X.K (.ref C) "__eq__" = some (some (.ref f))) (hf : PySem.W.isFn X.K (.ref f) = true) : OpR X (compareOp .NotEq) (rNeO C sp E) := by
  intro pins s σ H x y v u Q I rx ry h
  obtain ⟨a, b, dx, dy, fs, gs, rfl, rfl, ha, hb2, q⟩ := h
  obtain rfl : v = Value.ref a := rx
  obtain rfl : u = Value.ref b := ry
  obtain ⟨o, od, J⟩ := ins_at I ha
  obtain ⟨o2, od2, J2⟩ := ins_at I hb2
  obtain ⟨m, hF⟩ := I.fr
  show wpAny (model X.prog X.w) X.A (richCompare .NotEq (.ref a) (.ref b)) (EP X pins σ Q) X.xe s
  have hu := hr.units
  refine ne_own (tb := .ref C) (by omega) hF I.ok.mod.kin J J2.type (by simp [PySem.W.notFirst]) hm he hs hf (thn (run_fn1 (us := [.ref a, .ref b]) (vs := [.ref a, .ref b]) F hr hb hx I (.cons rfl (.cons rfl .nil)) q) fun r s1 z => ?_)
  obtain ⟨w, H1, I1, rw1, c, rfl, q1⟩ := z
  cases rw1
  exact ⟨c, rfl, .bl (!c), H1, I1, rfl, q1⟩
/-- the truth of an instance with an own __len__ and no __bool__ -/
def rTruO (C : Addr) (sp : Sp) (E : XK) : V → Hp → (Bool → Hp → Prop) → Prop := fun x H Q => ∃ (a dx : Addr) (fs : List (Str × V)), x = .ref a ∧ H a = some (.ins C dx fs) ∧ sp [.ref a] H (fun v H' => ∃ n : Int, v = .int n ∧ 0 ≤ n ∧ n < 2 ^ 63 ∧ Q (n != 0) H') E
theorem tru_own {A : Around} {pins : List (Addr × Obj)} {σ : L2.St} {H : Hp} {s : Shared} {R : Bool → Shared → Prop} {a dx : Addr} {fs : List (Str × V)} (I : Inv X pins σ H s) (ha : H a = some (.ins C dx fs))
    (hn : PySem.W.findIn X.K (.ref C) "__bool__" = some none) (hs : PySem.W.findIn X.K (.ref C) "__len__" = some (some (.ref f))) (hf : PySem.W.isFn X.K (.ref f) = true)
    (h : wpAny (model X.prog X.w) A.in1 (call (.ref f) [.ref a]) (fun v s' => ∃ n t, v = .int n t ∧ 0 ≤ n ∧ n < 2 ^ 63 ∧ R (n != 0) { s' with toks := s'.toks + 1 }) X.xe s) : wpAny (model X.prog X.w) A (truthy (.ref a)) R X.xe s := by
  obtain ⟨o, od, J⟩ := ins_at I ha
  obtain ⟨m, hF⟩ := I.fr
  have XI := I.kIn
  unfold truthy
  refine wpAny_bind (m := callSpecial? (.ref a) (Str.ofString "__bool__")) (wpAny_bind (wpAny_bind (J.type.here ((PySem.W.looks_findIn XI hn).here (wpAny_pure ?_)))))
  refine wpAny_bind (wpAny_bind (J.type.here ((PySem.W.looks_findIn XI hs).here ?_)))
  show wpAny _ _ (if (some (Value.ref f)).isNone = true then _ else _) _ _ _
  rw [if_neg (by simp)]
  refine wpAny_bind (m := runValue (.builtin "len" ⟨[.ref a], []⟩)) (wpAny_runValue (codeAny_builtin PySem.entry_len ?_))
  unfold Builtin.«len»
  refine wpAny_bind (m := oneArg "len" _) (wpAny_pure ?_)
  refine wpAny_bind (m := callSpecial? (.ref a) (Str.ofString "__len__")) (PySem.W.special_fn XI J hs (beq_iff_eq.mp hf) (wpAny_mono h (fun r s' hr => ?_) fun _ _ y => y))
  obtain ⟨n, t, rfl, h0, h1, hq⟩ := hr
  refine wpAny_bind (wpAny_holding (wpAny_pure ?_))
  refine wpAny_bind (wpAny_letGo ?_)
  show wpAny _ _ (if n < 0 then _ else _) _ _ _
  rw [if_neg (by omega)]
  show wpAny _ _ (if n ≥ 2 ^ 63 then _ else _) _ _ _
  rw [if_neg (by omega)]
  exact wpAny_bind (wpAny_mkInt (wpAny_pure (wpAny_pure hq)))
theorem tru_lenO (F : FnOk X.prog X.w X.K X.mg X.base CX k f fd ps sp) (hr : Room (k + 1) X.A) (hb : Binds X.K fd ps []) (hx : Passes CX X E) (hn : PySem.W.findIn X.K (.ref C) "__bool__" = some none) (hs : PySem.W.findIn X.K (.ref C) "__len__" = some (some (.ref f)))
    (hf : PySem.W.isFn X.K (.ref f) = true) : TruR X (rTruO C sp E) := by
  intro pins s σ H x v Q I rx h
  obtain ⟨a, dx, fs, rfl, ha, q⟩ := h
  obtain rfl : v = Value.ref a := rx
  refine tru_own I ha hn hs hf (thn (run_fn1 (us := [.ref a]) (vs := [.ref a]) F hr hb hx I (.cons rfl .nil) q) fun r s1 z => ?_)
  obtain ⟨w', H1, I1, rw1, n, rfl, h0, h1, q1⟩ := z
  obtain ⟨t, rfl⟩ := rw1
  exact ⟨n, t, rfl, h0, h1, H1, I1.tok _, q1⟩
end
section
variable {prog : Program} {w : World} {A : Around} {E : Value → Shared → Prop} {s : Shared} {a : Addr}
theorem bool_own {R : Value → Shared → Prop} (h : ∀ A', A' = A.in1.in1 → wpAny (model prog w) A' (truthy (.ref a)) (fun b s' => R (.bool b) s') E s) : wpAny (model prog w) A (call (.type "bool") [.ref a]) R E s := by
  refine callType_codes (Q₁ := fun obj s₁ => s₁.TypeIs obj "bool" ∧ R obj s₁) PySem.F.called_bool (PySem.F.typeCall_bool_1 _) PySem.F.entry_object_init ?_ fun obj s₁ h₁ => ?_
  · refine codeAny_of_tree ?_
    show wpAny _ A.in1.in1 (do checkBuiltinCall "bool.__new__" ⟨[.type "bool", .ref a], []⟩; again (.builtin "bool.__new__" ⟨[.type "bool", .ref a], []⟩)) _ _ s
    refine wpAny_bind (wpAny_of_eq (PySem.F.newCall_bool_1 _) (wpAny_pure ⟨plainId_quiet (by decide +kernel) _, codeAny_builtin PySem.F.entry_bool_new ?_⟩))
    rw [Around.under_plainId (by decide +kernel) _]
    have f1 := PySem.F.conv_sub_bool
    obtain ⟨hp, g, d, tk, os⟩ := s
    repeat (any_goals (first | assumption | (with_reducible refine wpAny_mono (h _ ?_) (fun b s' z => ?_) fun _ _ z => z) | wp_step))
    · rfl
    · exact ⟨rfl, z⟩
  · exact ⟨h₁.1, PySem.F.args_object_init_2 obj _, object_init_meets PySem.F.called_bool.init.lookup PySem.F.called_bool.made (by decide) prog w A.in1 _ s₁ ⟨h₁.1, rfl, h₁.2⟩⟩
end
section
variable {X : Cx} {CX : CXT} {k : Nat} {C f : Addr} {fd : FuncData} {ps : List Str} {sp : Sp} {E : XK}
/-- bool(x) of an instance with an own __len__ -/
def rBoolO (C : Addr) (sp : Sp) (E : XK) : List V → Hp → VK → Prop := fun xs H Q => ∃ (a dx : Addr) (fs : List (Str × V)), xs = [.ref a] ∧ H a = some (.ins C dx fs) ∧ sp [.ref a] H (fun v H' => ∃ n : Int, v = .int n ∧ 0 ≤ n ∧ n < 2 ^ 63 ∧ Q (.bl (n != 0)) H') E
theorem call_boolO (F : FnOk X.prog X.w X.K X.mg X.base CX k f fd ps sp) (hr : Room (k + 3) X.A) (hb : Binds X.K fd ps []) (hx : Passes CX X E) (hn : PySem.W.findIn X.K (.ref C) "__bool__" = some none) (hs : PySem.W.findIn X.K (.ref C) "__len__" = some (some (.ref f)))
    (hf : PySem.W.isFn X.K (.ref f) = true) : CallR X (.type "bool") (rBoolO C sp E) := by
  intro pins s σ H xs us Q I r h
  obtain ⟨a, dx, fs, rfl, ha, q⟩ := h
  obtain ⟨u, rfl, ru⟩ := vals1 r
  obtain rfl : u = Value.ref a := ru
  refine bool_own fun A' e => ?_
  subst e
  refine tru_own I ha hn hs hf (thn (run_fnA (us := [.ref a]) (vs := [.ref a]) F hr.in1.in1.in1 (fun e => e.in1.in1.in1) hb hx I (.cons rfl .nil) q) fun r s1 z => ?_)
  obtain ⟨w', H1, I1, rw1, n, rfl, h0, h1, q1⟩ := z
  obtain ⟨t, rfl⟩ := rw1
  exact ⟨n, t, rfl, h0, h1, .bl (n != 0), H1, I1.tok _, rfl, q1⟩
/-- not x, by a truth that is told -/
theorem pe_notT {r : V → Hp → (Bool → Hp → Prop) → Prop} {a : Expr} {ta : TE} {pos : Pos} (hc : TruR X r) (ha : PE X a ta) : PE X (.UnaryOp .Not a pos) (fun σ H Q => ta σ H fun x H1 => r x H1 fun b H2 => Q (.bl (!b)) H2) := by
  refine ⟨fun pins s σ H Q I h => ?_⟩
  refine UnaryOp_ (thn (ha.run pins s σ H _ I h) fun v s1 ⟨x, H1, I1, r1, q1⟩ => ?_)
  exact not_of (thn (hc pins s1 σ H1 x v _ I1 r1 q1) fun b s2 ⟨H2, I2, q2⟩ => ⟨.bl (!b), H2, I2, rfl, q2⟩)
end
/-! ### iteration over an instance whose own __iter__ hands on the iterator of a tuple -/
/-- at it an iterator over the tuple at l, at its begin -/
def ItTO (l it : Addr) : HO := .ext fun h => h.IsTupleIter it l 0
section
variable {X : Cx}
/-- iter(t), t a tuple -/
def rIterT (K : PySem.W.Frag) (n : Nat) : List V → Hp → VK → Prop := fun xs H Q => ∃ (l : Addr) (zs : List V), xs = [.ref l] ∧ SqT K H l zs ∧ ∀ it, H it = Option.none → n ≤ it → Q (.ref it) (upd H it (ItTO l it))
theorem call_iterT : CallR X (.builtin "iter") (rIterT X.K X.s_0.heap.objs.size) := by
  intro pins s σ H xs us Q I r h
  obtain ⟨l, zs, rfl, hq, q⟩ := h
  obtain rfl := Vals.ref1 r
  obtain ⟨its, rv, pl, hz⟩ := I.tuple hq
  refine Calls.call_function_entry (by decide +kernel) (by decide +kernel) PySem.W.kdk_entry_iter (PySem.W.kdk_args_iter _) ?_
  unfold Builtin.«iter»
  refine wpAny_bind (m := someArgs "iter" 1 2 _) (wpAny_of_eq (a := [Value.ref l]) (by first | rfl | kernel_rfl!) ?_)
  show wpAny _ _ (pyIter (.ref l) >>= _) _ _ _
  refine wpAny_bind (wpAny_pyIter_tuple pl ?_)
  have st : (s.heap.push { cls := .type "tuple_iterator", data := .fields #[.ref l, .int 0 0] }).IsTupleIter s.heap.objs.size l 0 := ⟨_, Heap.get?_push_size _ rfl, rfl, rfl⟩
  exact wpAny_pure ⟨_, rfl, .ref s.heap.objs.size, _, I.laid (t' := s.toks) (o := ItTO l s.heap.objs.size) (fun b u e => Heap.get?_push_of_some _ e) (Nat.le_refl _) ⟨st, ⟨_, Heap.get?_push_size _ rfl⟩, fun h1 h2 q k => q.at fun o e => k o e⟩, rfl, q _ (I.hok.fresh (Nat.le_refl _)) I.sz⟩
/-- a def that is told of the room's size at its call -/
def FnN (P : Program) (w : World) (K : PySem.W.Frag) (mg : Str → Option Value) (base : Heap) (CX : CXT) (k : Nat) (f : Addr) (sp : Nat → Sp) : Prop :=
  ∀ (A : Around) (outer : List Env) (s : Shared) (H : Hp) (us : List Value) (vs : List V) (Q : VK) (E : XK), Room k A → Env0 P w K mg base A outer s H → Vals vs us → sp s.heap.objs.size vs H Q E →
    codeAny (model P w) A (.call (.ref f) { pos := us, kw := [] }) (CR CX outer P w H s Q E) s
theorem FnN.mk0 {P : Program} {w : World} {K : PySem.W.Frag} {mg : Str → Option Value} {base : Heap} {k : Nat} {x qual : Str} {st : Stmt} {f : Addr} {fd : FuncData} {N ps : List Str} {sp : Nat → Sp}
    (F : Fun K x qual st f fd) (S : FnScope N ps (defScope st)) (B : Binds K fd ps []) (len : ∀ n vs H Q E, sp n vs H Q E → vs.length = ps.length)
    (go : ∀ (cdv : Value) (A : Around) (outer : List Env) (s : Shared) (H : Hp) (vs : List V) (Q : VK) (E : XK), Room k (A.deeper (envOfC qual (defScope st) s.heap.objs.size f cdv)) → sp s.heap.objs.size vs H Q E →
      ∃ t, PSs (cxOf CX0 P w K mg base N qual (defScope st) f cdv A outer s H E).nox (defBody st) t ∧ t { nx := fun _ H1 => Q .non H1, rt := Q } (start N vs) H) : FnN P w K mg base CX0 (k + 1) f sp := by
  obtain ⟨oc, od, kV, doc, pm, an, cdv, ct, osl, e, lk, hcd⟩ := F.ex
  subst e
  intro A outer s H us vs Q E hr e0 rv hs
  have hl := len _ _ _ _ _ hs
  have hu : (us ++ []).length = ps.length := by rw [List.append_nil, ← hl]; exact rv.length.symm
  have b := B s us (e0.mod.kin.keeps fun b o z => (e0.bs b o z).1) hu
  rw [List.append_nil] at b
  exact LamX.run_ofS lk hcd S hr e0 b rv hl fun hr1 => by
    obtain ⟨t, ht, q⟩ := go cdv A outer s H vs Q E hr1 hs
    exact ⟨t, ht.nox, q⟩
variable {CX : CXT} {k : Nat} {C f : Addr} {sp : Nat → Sp} {E : XK} {tg iter : Expr} {te : TE}
def iOwnT (K : PySem.W.Frag) (C : Addr) (sp : Nat → Sp) (E : XK) (te : TE) : TI := fun σ H R => te σ H fun x H1 => ∃ (a dx : Addr) (fs : List (Str × V)), x = .ref a ∧ H1 a = some (.ins C dx fs) ∧
  ∀ n, sp n [.ref a] H1 (fun v H2 => ∃ it l, v = .ref it ∧ n ≤ it ∧ H2 it = some (ItTO l it) ∧ R (Itt K l) (ItX.dropH H2 it)) E
theorem pi_ownT (he : PE X iter te) (F : FnN X.prog X.w X.K X.mg X.base CX k f sp) (hr : Room k X.A) (hx : Passes CX X E) (hs : PySem.W.findIn X.K (.ref C) "__iter__" = some (some (.ref f))) (hf : PySem.W.isFn X.K (.ref f) = true) : PI X tg iter (iOwnT X.K C sp E te) := by
  refine ⟨fun pins s σ H R I h => ?_⟩
  refine thn (he.run pins s σ H _ I h) fun u s1 ⟨x, H1, I1, rx, a, dx, fs, ex, ha, q⟩ => ?_
  subst ex
  obtain rfl : u = Value.ref a := rx
  obtain ⟨o, od, J⟩ := ins_at I1 ha
  obtain ⟨m, hF⟩ := I1.fr
  refine PySem.W.owit_iter hF I1.ok.mod.kin J hs hf (wpAny_call (codeAny_mono (F X.A X.stack s1 H1 [.ref a] [.ref a] _ E hr I1.env0 (.cons rfl .nil) (q _)) fun r s' hq => ?_))
  cases r with
  | error e => exact hx pins σ H1 s1 e s' I1 hq
  | ok fl =>
    cases fl with
    | next => exact False.elim hq
    | brk => exact False.elim hq
    | cont => exact False.elim hq
    | ret u =>
      obtain ⟨v, H2, I2, rv, it, l, ev, hn, hi, qR⟩ := I1.after hq
      subst ev
      obtain rfl : u = Value.ref it := rv
      have st : s'.heap.IsTupleIter it l 0 := (I2.hok it _ hi).1
      show PySem.W.OwitIt _ _ _ _ _ _
      unfold PySem.W.OwitIt specialOf
      refine wpAny_bind (wpAny_typeOf st.typeIs ?_)
      refine wpAny_of_eq PySem.F.slot_tuple_iterator_next.lookup ?_
      have hi' := hi
      unfold ItTO at hi'
      refine ⟨it, [it], _, _, ItX.dropH H2 it, rfl, ItX.inv_drop I2 hi', turn_tuple l it, st, fun b hb => ?_, qR⟩
      have e : b = it := by simpa using hb
      rw [e]
      exact ItX.inv_fp I2 hi (Nat.le_trans I1.sz hn)
theorem sqT_drop {K : PySem.W.Frag} {H : Hp} {a it : Addr} {xs : List V} (h : SqT K H a xs) (n : it ≠ a) : SqT K (ItX.dropH H it) a xs := by
  have e : ItX.dropH H it a = H a := ItX.dropH_ne (Ne.symm n)
  unfold SqT Rd at h ⊢
  simp only [e]
  exact h
end

/-! ### l.count(x) of written and drawn data -/
def rCountD (K : PySem.W.Frag) : V → List V → Hp → VK → Prop := fun x vs H Q => ∃ (l : Addr) (y : V) (xs : List V) (ds : List PyData) (d : PyData), x = .ref l ∧ vs = [y] ∧ SqL K H l xs ∧ DpAll K H xs ds ∧ Dp K H y d ∧ PyData.plainAll ds = true ∧ d.plain = true ∧ d.depth < 60 ∧
  Q (.int ((ds.countP fun z => PyData.eqv z d : Nat) : Int)) H
theorem mt_countD {X : Cx} (hu : X.A.units + 64 < cLine) : MtM X "list.count" (rCountD X.K) := by
  intro pins s σ H x vs v us Q I rx rv h
  obtain ⟨l, y, xs, ds, d, rfl, rfl, hS, hD, hy, p1, p2, hd, q⟩ := h
  cases rx
  obtain ⟨u, rfl, ru⟩ := rv.one
  obtain ⟨its, rw1, pl, _⟩ := I.list hS
  obtain ⟨as, ra⟩ := Dp.readsAll I ds _ its hD rw1
  obtain ⟨bs, rb⟩ := Dp.reads I d y u hy ru
  have hm : min (PyData.depthAll ds) d.depth ≤ d.depth := Nat.min_le_right _ _
  exact SeqAt.count_list_data pl.isList (show ReadsAll s.heap its.toArray.toList ds as from ra) rb p1 p2 (by omega) ⟨.int _, H, I.tok _, ⟨_, rfl⟩, q⟩
theorem mt_countD2 {X : Cx} (K : PySem.W.Frag) (hK : X.K = K) (hu : X.A.units + 64 < cLine) : MtM X "list.count" (rCountD K) := by
  subst hK
  exact mt_countD hu
/-- a method of a built-in kind, called within a comprehension -/
theorem pe_bmK {X : Cx} {Ty name id : String} {r : V → List V → Hp → VK → Prop} {o e : Expr} {es : List Expr} {to : TE} {t : TA} {apos cpos : Pos} (K : PySem.W.Frag) (hK : X.K = K) (pa : PlainAttrs Ty) (slot : Slot Ty name id) (hty : typeOf (.builtin id) = pure (.type "method_descriptor")) (hm : MtM X id r) (ho : PE X o to) (ha : PA X (e :: es) t)
    (hbase : attributeBase o name X.env (eval o X.env) = eval o X.env := by rfl)
    (hfew : ((backTo cpos (starEach (e :: es) X.env)).all (fun x => !x.1) && (backToKw cpos (keywordEach [] X.env)).all (fun x => x.1.isSome)
      && decide ((e :: es).length + ([] : List Keyword).length + (if ([] : List Keyword).isEmpty then 0 else 1) < 30)) = true := by rfl)
    (hline : (apos.endLine == cpos.line) = true := by rfl) (hs : starEach (e :: es) X.env = (false, eval e X.env) :: starEach es X.env := by rfl) (hplain : (backTo cpos (starEach es X.env)).any (·.1) = false := by rfl) :
    PE X (.Call (.Attribute o name apos) (e :: es) [] cpos) (tBM K Ty r to t) := by
  subst hK
  exact pe_bm pa slot hty hm ho ha hbase hfew hline hs hplain
/-! ### a comprehension over zip of two lists -/
theorem lc_zipL {K : PySem.W.Frag} {a b : Addr} {xs ys : List V} {g : TG} {tt : TT} {te : TE} {vs : List Nat} {σ : L2.St} {H1 : Hp} {D : Addr} {Qd : Hp → Prop} (hl : xs.length = ys.length) (Pv : Nat → Hp → Prop) (h0 : Pv 0 (upd H1 D (.lst [])))
    (hq : ∀ i H, Pv i H → SqL K H a xs ∧ SqL K H b ys)
    (hs : ∀ i x y H T, xs[i]? = some x → ys[i]? = some y → Pv i H → H T = Option.none → g (.ref T) (wipe σ vs) (upd H T (.tup [x, y])) fun σ2 H2 => wipe σ2 vs = wipe σ vs ∧ tt σ2 H2 fun b H3 =>
      if b = true then te σ2 H3 fun y H4 => ∃ acc, H4 D = some (.lst acc) ∧ acc.length < sizeLine ∧ Pv (i + 1) (upd H4 D (.lst (acc ++ [y]))) else Pv (i + 1) H3) (hd : ∀ H, Pv xs.length H → Qd H) :
    ∃ W : Nat → Nat → Hp → Prop, (∃ m, W 0 m (upd H1 D (.lst []))) ∧ ∀ i m H, W i m H →
      ((Itz K a b).stop i H ∧ Qd H) ∨ ((Itz K a b).go i H ∧ ∃ Nx : Hp → Prop, (∀ H', Nx H' → ∃ m', m' < m ∧ W (i + 1) m' H') ∧ ∀ x H', (Itz K a b).yld i H x H' → g x (wipe σ vs) H' fun σ2 H2 => wipe σ2 vs = wipe σ vs ∧ tt σ2 H2 fun b H3 =>
        if b = true then te σ2 H3 fun y H4 => ∃ acc, H4 D = some (.lst acc) ∧ acc.length < sizeLine ∧ Nx (upd H4 D (.lst (acc ++ [y]))) else Nx H3) := by
  refine ⟨fun i m H => m = xs.length - i ∧ i ≤ xs.length ∧ Pv i H, ⟨xs.length, rfl, Nat.zero_le _, h0⟩, ?_⟩
  rintro i m H ⟨rfl, hi, p⟩
  obtain ⟨qx, qy⟩ := hq i H p
  rcases Nat.lt_or_ge i xs.length with lt | ge
  · have lt2 : i < ys.length := hl ▸ lt
    refine .inr ⟨⟨xs, ys, xs[i], ys[i], qx, qy, List.getElem?_eq_getElem lt, List.getElem?_eq_getElem lt2⟩, Pv (i + 1), fun H' p' => ⟨xs.length - (i + 1), by omega, rfl, lt, p'⟩, ?_⟩
    rintro v H' ⟨T, x', y', rfl, hT, rfl, f1, f2⟩
    exact hs i x' y' H T (f1 xs qx) (f2 ys qy) p hT
  · obtain rfl : i = xs.length := by omega
    exact .inl ⟨⟨xs, ys, qx, qy, .inl ge⟩, hd H p⟩


end
/-- what the top has written -/
structure Txt (K : PySem.W.Frag) (mg : Str → Option Value) where
  a_Wheel : Addr
  a_Even : Addr
  a_Exact : Addr
  a_Lagging : Addr
  a_Grid : Addr
  m_Wheel : mg "Wheel" = some (.ref a_Wheel)
  m_Even : mg "Even" = some (.ref a_Even)
  m_Exact : mg "Exact" = some (.ref a_Exact)
  m_Lagging : mg "Lagging" = some (.ref a_Lagging)
  m_Grid : mg "Grid" = some (.ref a_Grid)
  p_trusted : Addr
  p_play : Addr
  p_never_parts : Addr
  a_is_whole : Addr
  fd_is_whole : FuncData
  F_is_whole : Fun K "is_whole" "is_whole" s_is_whole a_is_whole fd_is_whole
  m_is_whole : mg "is_whole" = some (.ref a_is_whole)
  a_is_between : Addr
  fd_is_between : FuncData
  F_is_between : Fun K "is_between" "is_between" s_is_between a_is_between fd_is_between
  m_is_between : mg "is_between" = some (.ref a_is_between)
  a_need_part : Addr
  fd_need_part : FuncData
  F_need_part : Fun K "need_part" "need_part" s_need_part a_need_part fd_need_part
  m_need_part : mg "need_part" = some (.ref a_need_part)
  a_pen : Addr
  fd_pen : FuncData
  F_pen : Fun K "_law_pen" "_law_pen" s_pen a_pen fd_pen
  m_pen : mg "_law_pen" = some (.ref a_pen)
  a_draw : Addr
  fd_draw : FuncData
  F_draw : Fun K "_law_draw" "_law_draw" s_draw a_draw fd_draw
  m_draw : mg "_law_draw" = some (.ref a_draw)
  a_pick : Addr
  fd_pick : FuncData
  F_pick : Fun K "_law_pick" "_law_pick" s_pick a_pick fd_pick
  m_pick : mg "_law_pick" = some (.ref a_pick)
  a_heard : Addr
  fd_heard : FuncData
  F_heard : Fun K "_law_heard" "_law_heard" s_heard a_heard fd_heard
  m_heard : mg "_law_heard" = some (.ref a_heard)
  a_part : Addr
  fd_part : FuncData
  F_part : Fun K "_law_part" "_law_part" s_part a_part fd_part
  m_part : mg "_law_part" = some (.ref a_part)
  a_told_right : Addr
  fd_told_right : FuncData
  F_told_right : Fun K "_law_told_right" "_law_told_right" s_told_right a_told_right fd_told_right
  m_told_right : mg "_law_told_right" = some (.ref a_told_right)
  a_classes : Addr
  fd_classes : FuncData
  F_classes : Fun K "_law_classes" "_law_classes" s_classes a_classes fd_classes
  m_classes : mg "_law_classes" = some (.ref a_classes)
  a_made_right : Addr
  fd_made_right : FuncData
  F_made_right : Fun K "_law_made_right" "_law_made_right" s_made_right a_made_right fd_made_right
  m_made_right : mg "_law_made_right" = some (.ref a_made_right)
  a_refused_right : Addr
  fd_refused_right : FuncData
  F_refused_right : Fun K "_law_refused_right" "_law_refused_right" s_refused_right a_refused_right fd_refused_right
  m_refused_right : mg "_law_refused_right" = some (.ref a_refused_right)
  a_law : Addr
  fd_law : FuncData
  F_law : Fun K "law" "law" s_law a_law fd_law
  m_law : mg "law" = some (.ref a_law)
  a_BadWheel_init : Addr
  fd_BadWheel_init : FuncData
  F_BadWheel_init : Fun K "__init__" "BadWheel.__init__" s_BadWheel_init a_BadWheel_init fd_BadWheel_init
  a_Wheel_init : Addr
  fd_Wheel_init : FuncData
  F_Wheel_init : Fun K "__init__" "Wheel.__init__" s_Wheel_init a_Wheel_init fd_Wheel_init
  a_Wheel_trusted : Addr
  fd_Wheel_trusted : FuncData
  F_Wheel_trusted : Fun K "trusted" "Wheel.trusted" s_Wheel_trusted a_Wheel_trusted fd_Wheel_trusted
  a_Wheel_play : Addr
  fd_Wheel_play : FuncData
  F_Wheel_play : Fun K "play" "Wheel.play" s_Wheel_play a_Wheel_play fd_Wheel_play
  a_Wheel_never_parts : Addr
  fd_Wheel_never_parts : FuncData
  F_Wheel_never_parts : Fun K "never_parts" "Wheel.never_parts" s_Wheel_never_parts a_Wheel_never_parts fd_Wheel_never_parts
  a_Wheel_eq : Addr
  fd_Wheel_eq : FuncData
  F_Wheel_eq : Fun K "__eq__" "Wheel.__eq__" s_Wheel_eq a_Wheel_eq fd_Wheel_eq
  a_Wheel_str : Addr
  fd_Wheel_str : FuncData
  F_Wheel_str : Fun K "__str__" "Wheel.__str__" s_Wheel_str a_Wheel_str fd_Wheel_str
  a_Even_init : Addr
  cda_Even_init : Addr
  cc_Even_init : Addr
  fd_Even_init : FuncData
  F_Even_init : FunS K "__init__" "Even.__init__" s_Even_init a_Even_init cda_Even_init cc_Even_init fd_Even_init
  so_Even_init : SupK K mg lawFile cda_Even_init cc_Even_init a_Even a_Wheel_init
  a_Exact_init : Addr
  cda_Exact_init : Addr
  cc_Exact_init : Addr
  fd_Exact_init : FuncData
  F_Exact_init : FunS K "__init__" "Exact.__init__" s_Exact_init a_Exact_init cda_Exact_init cc_Exact_init fd_Exact_init
  so_Exact_init : SupK K mg lawFile cda_Exact_init cc_Exact_init a_Exact a_Wheel_init
  a_Lagging_init : Addr
  cda_Lagging_init : Addr
  cc_Lagging_init : Addr
  fd_Lagging_init : FuncData
  F_Lagging_init : FunS K "__init__" "Lagging.__init__" s_Lagging_init a_Lagging_init cda_Lagging_init cc_Lagging_init fd_Lagging_init
  so_Lagging_init : SupK K mg lawFile cda_Lagging_init cc_Lagging_init a_Lagging a_Wheel_init
  a_Grid_init : Addr
  cda_Grid_init : Addr
  cc_Grid_init : Addr
  fd_Grid_init : FuncData
  F_Grid_init : FunS K "__init__" "Grid.__init__" s_Grid_init a_Grid_init cda_Grid_init cc_Grid_init fd_Grid_init
  so_Grid_init : SupK K mg lawFile cda_Grid_init cc_Grid_init a_Grid a_Wheel_init
  n_ValueError : mg "ValueError" = none
  n_abs : mg "abs" = none
  n_bool : mg "bool" = none
  n_int : mg "int" = none
  n_isinstance : mg "isinstance" = none
  n_len : mg "len" = none
  n_list : mg "list" = none
  n_property : mg "property" = none
  n_range : mg "range" = none
  n_repr : mg "repr" = none
  n_staticmethod : mg "staticmethod" = none
  n_str : mg "str" = none
  n_super : mg "super" = none
  n_zip : mg "zip" = none
  bad : BadW K mg
  u_MP : Value
  m_MP : mg "MOST_PERIOD" = some u_MP
  r_MP : RelV (.int 1000000000000) u_MP
section
variable {P : Program} {w : World} {K : PySem.W.Frag} {mg : Str → Option Value} {base : Heap}
theorem b_is_whole (T : Txt K mg) : Binds K T.fd_is_whole ["value"] [] := T.F_is_whole.binds (ps := ["value"]) fun _ _ _ _ _ _ us hl => match us, hl with | [_], _ => rfl
theorem b_is_between (T : Txt K mg) : Binds K T.fd_is_between ["value", "low", "high"] [] := T.F_is_between.binds (ps := ["value", "low", "high"]) fun _ _ _ _ _ _ us hl => match us, hl with | [_, _, _], _ => rfl
theorem b_need_part (T : Txt K mg) : Binds K T.fd_need_part ["value", "least", "part"] [] := T.F_need_part.binds (ps := ["value", "least", "part"]) fun _ _ _ _ _ _ us hl => match us, hl with | [_, _, _], _ => rfl
theorem b_pen (T : Txt K mg) : Binds K T.fd_pen ["_law_script"] [] := T.F_pen.binds (ps := ["_law_script"]) fun _ _ _ _ _ _ us hl => match us, hl with | [_], _ => rfl
theorem b_draw (T : Txt K mg) : Binds K T.fd_draw ["_law_pen_here", "_law_many"] [] := T.F_draw.binds (ps := ["_law_pen_here", "_law_many"]) fun _ _ _ _ _ _ us hl => match us, hl with | [_, _], _ => rfl
theorem b_pick (T : Txt K mg) : Binds K T.fd_pick ["_law_pen_here", "_law_some"] [] := T.F_pick.binds (ps := ["_law_pen_here", "_law_some"]) fun _ _ _ _ _ _ us hl => match us, hl with | [_, _], _ => rfl
theorem b_heard (T : Txt K mg) : Binds K T.fd_heard ["_law_ask"] [] := T.F_heard.binds (ps := ["_law_ask"]) fun _ _ _ _ _ _ us hl => match us, hl with | [_], _ => rfl
theorem b_part (T : Txt K mg) : Binds K T.fd_part ["_law_pen_here", "_law_least"] [] := T.F_part.binds (ps := ["_law_pen_here", "_law_least"]) fun _ _ _ _ _ _ us hl => match us, hl with | [_, _], _ => rfl
theorem b_told_right (T : Txt K mg) : Binds K T.fd_told_right ["_law_made", "_law_period", "_law_back", "_law_ahead", "_law_trusted"] [] := T.F_told_right.binds (ps := ["_law_made", "_law_period", "_law_back", "_law_ahead", "_law_trusted"]) fun _ _ _ _ _ _ us hl => match us, hl with | [_, _, _, _, _], _ => rfl
theorem b_classes (T : Txt K mg) : Binds K T.fd_classes ["_law_made"] [] := T.F_classes.binds (ps := ["_law_made"]) fun _ _ _ _ _ _ us hl => match us, hl with | [_], _ => rfl
theorem b_made_right (T : Txt K mg) : Binds K T.fd_made_right ["_law_pen_here"] [] := T.F_made_right.binds (ps := ["_law_pen_here"]) fun _ _ _ _ _ _ us hl => match us, hl with | [_], _ => rfl
theorem b_refused_right (T : Txt K mg) : Binds K T.fd_refused_right ["_law_pen_here"] [] := T.F_refused_right.binds (ps := ["_law_pen_here"]) fun _ _ _ _ _ _ us hl => match us, hl with | [_], _ => rfl
theorem b_law (T : Txt K mg) : Binds K T.fd_law ["_law_script"] [] := T.F_law.binds (ps := ["_law_script"]) fun _ _ _ _ _ _ us hl => match us, hl with | [_], _ => rfl
theorem b_BadWheel_init (T : Txt K mg) : Binds K T.fd_BadWheel_init ["self", "part"] [] := T.F_BadWheel_init.binds (ps := ["self", "part"]) fun _ _ _ _ _ _ us hl => match us, hl with | [_, _], _ => rfl
theorem b_Wheel_init (T : Txt K mg) : Binds K T.fd_Wheel_init ["self", "period", "back", "ahead"] [] := T.F_Wheel_init.binds (ps := ["self", "period", "back", "ahead"]) fun _ _ _ _ _ _ us hl => match us, hl with | [_, _, _, _], _ => rfl
theorem b_Wheel_trusted (T : Txt K mg) : Binds K T.fd_Wheel_trusted ["self"] [] := T.F_Wheel_trusted.binds (ps := ["self"]) fun _ _ _ _ _ _ us hl => match us, hl with | [_], _ => rfl
theorem b_Wheel_play (T : Txt K mg) : Binds K T.fd_Wheel_play ["self"] [] := T.F_Wheel_play.binds (ps := ["self"]) fun _ _ _ _ _ _ us hl => match us, hl with | [_], _ => rfl
theorem b_Wheel_never_parts (T : Txt K mg) : Binds K T.fd_Wheel_never_parts ["self"] [] := T.F_Wheel_never_parts.binds (ps := ["self"]) fun _ _ _ _ _ _ us hl => match us, hl with | [_], _ => rfl
theorem b_Wheel_eq (T : Txt K mg) : Binds K T.fd_Wheel_eq ["self", "other"] [] := T.F_Wheel_eq.binds (ps := ["self", "other"]) fun _ _ _ _ _ _ us hl => match us, hl with | [_, _], _ => rfl
theorem b_Wheel_str (T : Txt K mg) : Binds K T.fd_Wheel_str ["self"] [] := T.F_Wheel_str.binds (ps := ["self"]) fun _ _ _ _ _ _ us hl => match us, hl with | [_], _ => rfl
theorem b_Even_init (T : Txt K mg) : Binds K T.fd_Even_init ["self", "period", "slip"] [] := T.F_Even_init.binds (ps := ["self", "period", "slip"]) fun _ _ _ _ _ us hl => match us, hl with | [_, _, _], _ => rfl
theorem b_Exact_init (T : Txt K mg) : Binds K T.fd_Exact_init ["self", "period"] [] := T.F_Exact_init.binds (ps := ["self", "period"]) fun _ _ _ _ _ us hl => match us, hl with | [_, _], _ => rfl
theorem b_Lagging_init (T : Txt K mg) : Binds K T.fd_Lagging_init ["self", "period", "lag"] [] := T.F_Lagging_init.binds (ps := ["self", "period", "lag"]) fun _ _ _ _ _ us hl => match us, hl with | [_, _, _], _ => rfl
theorem b_Grid_init (T : Txt K mg) : Binds K T.fd_Grid_init ["self", "period"] [] := T.F_Grid_init.binds (ps := ["self", "period"]) fun _ _ _ _ _ us hl => match us, hl with | [_, _], _ => rfl

def spWhole : Sp := fun vs H Q _ => ∃ (v : V) (t : String), vs = [v] ∧ NT H v t ∧ Q (.bl (t == "int")) H
theorem ok_is_whole (T : Txt K mg) : FnOk P w K mg base CX0 1 T.a_is_whole T.fd_is_whole ["value"] spWhole := by
  refine T.F_is_whole.ok sc_is_whole (fun vs H Q E h => ?_) (fun cdv A outer s H vs Q E hr h => ?_)
  · obtain ⟨v, t, rfl, _⟩ := h; rfl
  · obtain ⟨v, t, rfl, ht, k⟩ := h
    obtain ⟨b1, b2, h1, h2, h3⟩ := ht.kit
    refine ⟨_, pss_one (ps_ret (pe_and (pe_callB call_isi (by rfl) T.n_isinstance (by decide +kernel) (pa_cons (pv 0) (pa_cons (pe_bltn (v := .ty "int") (u := .type "int") (by rfl) T.n_int (by decide +kernel) rfl) (pa_nil)))) (pe_one (pe_not (pe_callB call_isi (by rfl) T.n_isinstance (by decide +kernel) (pa_cons (pv 0) (pa_cons (pe_bltn (v := .ty "bool") (u := .type "bool") (by rfl) T.n_bool (by decide +kernel) rfl) (pa_nil)))))))), ?_⟩
    refine ⟨_, rfl, v, .ty "int", .type t, .type "int", b1, rfl, .ty _, ht.ty, kit_ty h1, b1, rfl, ?_⟩
    rw [← h3] at k
    cases b1 with
    | false => exact iteF k
    | true => exact iteT ⟨_, rfl, v, .ty "bool", .type t, .type "bool", b2, rfl, .ty _, ht.ty, kit_ty h2, b2, rfl, k⟩

/-- whether v is an integer between the two -/
def betB (lo hi : Int) : V → Bool
  | .int i => decide (lo ≤ i ∧ i ≤ hi)
  | _ => false
def spBetK : Sp := fun vs H Q _ => ∃ (v : V) (t : String) (lo hi : Int), vs = [v, .int lo, .int hi] ∧ NT H v t ∧ Q (.bl (betB lo hi v)) H
theorem betB_no {H : Hp} {v : V} {t : String} {lo hi : Int} (h : NT H v t) (n : (t == "int") = false) : betB lo hi v = false := by
  cases h <;> first | rfl | cases n
theorem ok_is_between (T : Txt K mg) : FnOk P w K mg base CX0 2 T.a_is_between T.fd_is_between ["value", "low", "high"] spBetK := by
  refine T.F_is_between.ok sc_is_between (fun vs H Q E h => ?_) (fun cdv A outer s H vs Q E hr h => ?_)
  · obtain ⟨v, t, lo, hi, rfl, _⟩ := h; rfl
  · obtain ⟨v, t, lo, hi, rfl, ht, k⟩ := h
    refine ⟨_, pss_one (ps_ret (pe_and (pe_call (ok_is_whole T) (hr.mono (by decide)) rfl T.m_is_whole T.F_is_whole.kp (b_is_whole T) .nil pass0 (pa_cons (pv 0) (pa_nil))) (pe_one (pe_chain op_le op_le (pv 1) (pv 0) (pv 2))))), ?_⟩
    refine ⟨_, rfl, v, t, rfl, ht, (t == "int"), rfl, ?_⟩
    cases e : (t == "int") with
    | false => rw [betB_no ht e] at k; exact iteF k
    | true =>
      obtain ⟨v, rfl⟩ := ht.isInt (beq_iff_eq.mp e)
      refine iteT ⟨_, rfl, _, rfl, _, _, rfl, rfl, _, rfl, ?_⟩
      refine ite2 (fun hc => ?_) (fun hc => ?_)
      · have hc := of_decide_eq_true hc
        refine ⟨_, rfl, _, _, rfl, rfl, ?_⟩
        refine Eq.mpr (congrArg (fun b => Q (V.bl b) _) ?_) k
        show _ = decide _
        rw [decide_eq_decide]
        exact ⟨fun z => ⟨hc, z⟩, fun z => z.2⟩
      · have hc : ¬ lo ≤ v := fun z => hc (decide_eq_true z)
        refine Eq.mpr (congrArg (fun b => Q (V.bl b) _) ?_) k
        exact (decide_eq_false fun z => hc z.1).symm
/-- a part is in order, or BadWheel tells its name -/
def spNeed (C : Addr) : Sp := fun vs H Q E => ∃ (v : V) (t : String) (lo : Int) (pt : Str), vs = [v, .int lo, .str pt] ∧ NT H v t ∧
  if betB lo 1000000000000 v = true then Q .non H else ∀ (d : Addr) (H2 : Hp), Same H H2 → H d = Option.none → H2 d = some (.xd [("part", .str pt)]) → E (.ref C) (some d) H2
theorem ok_need_part (T : Txt K mg) : FnOk P w K mg base (L2.CX P w) 3 T.a_need_part T.fd_need_part ["value", "least", "part"] (spNeed T.bad.C) := by
  refine T.F_need_part.okX sc_need_part (fun vs H Q E h => ?_) (fun cdv A outer s H vs Q E hr h => ?_)
  · obtain ⟨v, t, lo, pt, rfl, _⟩ := h; rfl
  · obtain ⟨v, t, lo, pt, rfl, ht, k⟩ := h
    refine ⟨_, pss_one (ps_if (pt_not (pt_val (pe_call (ok_is_between T) (hr.mono (by decide)) rfl T.m_is_between T.F_is_between.kp (b_is_between T) .nil pass0 (pa_cons (pv 0) (pa_cons (pv 1) (pa_cons (pe_glob (v := .int 1000000000000) rfl T.m_MP T.r_MP) (pa_nil))))))) (pss_one (ps_raise rfl (takes_of rfl rfl rfl rfl) (pmk_badW T.bad (hr.mono (by decide)) rfl (pv 2)))) (pss_nil)), ?_⟩
    refine ⟨_, rfl, _, rfl, v, t, lo, 1000000000000, rfl, ht, _, rfl, ?_⟩
    cases e : betB lo 1000000000000 v with
    | true => rw [e] at k; exact iteF k
    | false =>
      rw [e] at k
      refine iteT ⟨_, rfl, (by show 1 ≤ 1000; decide), fun a ha => badW_fin T.bad ha fun d H2 s2 hd h2 => k d H2 s2 hd h2⟩

/-- an instance with the three parts -/
def WhAt (H : Hp) (C x : Addr) (p b a : Int) : Prop := ∃ dx, H x = some (.ins C dx [("period", .int p), ("back", .int b), ("ahead", .int a)])
theorem WhAt.same {H H' : Hp} {C x : Addr} {p b a : Int} (s : Same H H') (h : WhAt H C x p b a) : WhAt H' C x p b a := h.elim fun dx h => ⟨dx, s _ _ h⟩
/-- what is in order, or the first part that is not -/
def okParts (lo : List Int) (vs : List V) (pts : List Str) : Option Str := ((lo.zip (vs.zip pts)).find? fun q => !betB q.1 1000000000000 q.2.1).map (·.2.2)
/-- what a class of wheels must have -/
structure WCls (K : PySem.W.Frag) (C : Addr) : Prop where
  cls : Cls K C
  na : ∀ y ∈ (["period", "back", "ahead"] : List Str), NoAttr K C y
def ErrP (H : Hp) (C : Addr) (E : XK) (pt : Str) : Prop := ∀ (d : Addr) (H2 : Hp), Same H H2 → H d = Option.none → H2 d = some (.xd [("part", .str pt)]) → E (.ref C) (some d) H2
theorem ErrP.same {H H' : Hp} {C : Addr} {E : XK} {pt : Str} (s : Same H H') (f : ∀ d, H' d = Option.none → H d = Option.none) (h : ErrP H C E pt) : ErrP H' C E pt := fun d H2 s2 hd h2 => h d H2 (s.trans s2) (f d hd) h2
/-- Wheel.__init__, of an instance of any class of wheels -/
def spWheelInit (K : PySem.W.Frag) (B : Addr) : Sp := fun vs H Q E => ∃ (x C dx : Addr) (p b a : V) (tp tb ta : String), vs = [.ref x, p, b, a] ∧ WCls K C ∧ H x = some (.ins C dx []) ∧ NT H p tp ∧ NT H b tb ∧ NT H a ta ∧
  (betB 2 1000000000000 p = false → ErrP H B E "period") ∧
  (betB 2 1000000000000 p = true → betB 0 1000000000000 b = false → ErrP H B E "back") ∧
  (betB 2 1000000000000 p = true → betB 0 1000000000000 b = true → betB 0 1000000000000 a = false → ErrP H B E "ahead") ∧
  (∀ i j k : Int, p = .int i → b = .int j → a = .int k → 2 ≤ i → i ≤ 1000000000000 → 0 ≤ j → j ≤ 1000000000000 → 0 ≤ k → k ≤ 1000000000000 → Q .non (upd H x (.ins C dx [("period", .int i), ("back", .int j), ("ahead", .int k)])))
theorem betB_get {lo hi : Int} {v : V} (h : betB lo hi v = true) : ∃ i, v = .int i ∧ lo ≤ i ∧ i ≤ hi := by
  cases v with
  | int i => exact ⟨i, rfl, of_decide_eq_true h⟩
  | _ => cases h
theorem ok_Wheel_init (T : Txt K mg) : FnOk P w K mg base (L2.CX P w) 4 T.a_Wheel_init T.fd_Wheel_init ["self", "period", "back", "ahead"] (spWheelInit K T.bad.C) := by
  refine T.F_Wheel_init.okX sc_Wheel_init (fun vs H Q E h => ?_) (fun cdv A outer s H vs Q E hr h => ?_)
  · obtain ⟨x, C, dx, p, b, a, tp, tb, ta, rfl, _⟩ := h; rfl
  · obtain ⟨x, C, dx, p, b, a, tp, tb, ta, rfl, cW, hx, hp, hb, ha, e1, e2, e3, k⟩ := h
    refine ⟨_, pss_cons (ps_expr (pe_call (ok_need_part T) (hr.mono (by decide)) rfl T.m_need_part T.F_need_part.kp (b_need_part T) .nil (passes_call (takes_of rfl rfl rfl rfl) (fun _ _ _ _ h => h)) (pa_cons (pv 1) (pa_cons (pe_int) (pa_cons (pe_str) (pa_nil))))))
      (pss_cons (ps_expr (pe_call (ok_need_part T) (hr.mono (by decide)) rfl T.m_need_part T.F_need_part.kp (b_need_part T) .nil (passes_call (takes_of rfl rfl rfl rfl) (fun _ _ _ _ h => h)) (pa_cons (pv 2) (pa_cons (pe_int) (pa_cons (pe_str) (pa_nil))))))
      (pss_cons (ps_expr (pe_call (ok_need_part T) (hr.mono (by decide)) rfl T.m_need_part T.F_need_part.kp (b_need_part T) .nil (passes_call (takes_of rfl rfl rfl rfl) (fun _ _ _ _ h => h)) (pa_cons (pv 3) (pa_cons (pe_int) (pa_cons (pe_str) (pa_nil))))))
      (pss_cons (ps_fld (pv 0) (pv 1) rfl)
      (pss_cons (ps_fld (pv 0) (pv 2) rfl)
      (pss_one (ps_fld (pv 0) (pv 3) rfl)))))), ?_⟩
    refine ⟨_, rfl, p, tp, 2, "period", rfl, hp, ?_⟩
    refine ite2 (fun h1 => ?_) (fun h1 => e1 (Bool.eq_false_iff.mpr h1))
    refine ⟨_, rfl, b, tb, 0, "back", rfl, hb, ?_⟩
    refine ite2 (fun h2 => ?_) (fun h2 => e2 h1 (Bool.eq_false_iff.mpr h2))
    refine ⟨_, rfl, a, ta, 0, "ahead", rfl, ha, ?_⟩
    refine ite2 (fun h3 => ?_) (fun h3 => e3 h1 h2 (Bool.eq_false_iff.mpr h3))
    obtain ⟨i, rfl, i1, i2⟩ := betB_get h1
    obtain ⟨j, rfl, j1, j2⟩ := betB_get h2
    obtain ⟨l, rfl, l1, l2⟩ := betB_get h3
    refine ⟨_, rfl, _, rfl, x, C, dx, _, rfl, hx, cW.cls, cW.na _ (by simp), (by show 0 < 1000; decide), ?_⟩
    refine ⟨_, rfl, _, rfl, x, C, dx, _, rfl, upd_same, cW.cls, cW.na _ (by simp), (by show 1 < 1000; decide), ?_⟩
    refine ⟨_, rfl, _, rfl, x, C, dx, _, rfl, upd_same, cW.cls, cW.na _ (by simp), (by show 2 < 1000; decide), ?_⟩
    refine Eq.mpr (congrArg (Q V.non) ?_) (k i j l rfl rfl rfl i1 i2 j1 j2 l1 l2)
    funext y
    unfold upd
    split <;> rfl

def spEvenInit (K : PySem.W.Frag) (B D f2 : Addr) : Sp := fun vs H Q E => ∃ (x C dx : Addr) (p b : V) (tp tb : String), vs = [.ref x, p, b] ∧ WCls K C ∧ SupAt K C D f2 "__init__" ∧ H x = some (.ins C dx []) ∧ NT H p tp ∧ NT H b tb ∧
  (betB 2 1000000000000 p = false → ErrP H B E "period") ∧
  (betB 2 1000000000000 p = true → betB 0 1000000000000 b = false → ErrP H B E "slip") ∧
  (∀ i j : Int, p = .int i → b = .int j → 2 ≤ i → i ≤ 1000000000000 → 0 ≤ j → j ≤ 1000000000000 → Q .non (upd H x (.ins C dx [("period", .int i), ("back", .int j), ("ahead", .int j)])))
theorem ok_Even_init (HP : PrF lawFile P) (T : Txt K mg) : FnOk P w K mg base (L2.CX P w) 5 T.a_Even_init T.fd_Even_init ["self", "period", "slip"] (spEvenInit K T.bad.C T.a_Even T.a_Wheel_init) := by
  refine T.F_Even_init.okX sc_Even_init T.so_Even_init (fun vs H Q E h => ?_) (fun A outer s H vs Q E hr h => ?_)
  · obtain ⟨x, C, dx, p, b, tp, tb, rfl, _⟩ := h; rfl
  · obtain ⟨x, C, dx, p, b, tp, tb, rfl, cW, sa, hx, hp, hb, e1, e2, k⟩ := h
    refine ⟨_, psup_cons (ps_expr (pe_call (ok_need_part T) (hr.mono (by decide)) rfl T.m_need_part T.F_need_part.kp (b_need_part T) .nil (passes_call (takes_of rfl rfl rfl rfl) (fun _ _ _ _ h => h)) (pa_cons (pv 1) (pa_cons pe_int (pa_cons pe_str pa_nil)))))
      (psup_cons (ps_expr (pe_call (ok_need_part T) (hr.mono (by decide)) rfl T.m_need_part T.F_need_part.kp (b_need_part T) .nil (passes_call (takes_of rfl rfl rfl rfl) (fun _ _ _ _ h => h)) (pa_cons (pv 2) (pa_cons pe_int (pa_cons pe_str pa_nil)))))
      (psup_super (T.so_Even_init.of HP T.F_Even_init rfl) ((ok_Wheel_init T).raw (b_Wheel_init T) .nil) (hr.mono (by decide)) (passes_call (takes_of rfl rfl rfl rfl) (fun _ _ _ _ h => h)) (pa_cons (pv 1) (pa_cons (pv 2) (pa_cons (pv 2) pa_nil))) rfl rfl rfl rfl rfl rfl rfl)), ?_⟩
    refine ⟨_, rfl, p, tp, 2, "period", rfl, hp, ?_⟩
    refine ite2 (fun h1 => ?_) (fun h1 => e1 (Bool.eq_false_iff.mpr h1))
    refine ⟨_, rfl, b, tb, 0, "slip", rfl, hb, ?_⟩
    refine ite2 (fun h2 => ?_) (fun h2 => e2 h1 (Bool.eq_false_iff.mpr h2))
    obtain ⟨i, rfl, i1, i2⟩ := betB_get h1
    obtain ⟨j, rfl, j1, j2⟩ := betB_get h2
    refine ⟨x, C, dx, [], rfl, hx, sa, _, rfl, _, rfl, _, rfl, x, C, dx, .int i, .int j, .int j, "int", "int", "int", rfl, cW, hx, .int _, .int _, .int _, fun z => absurd (h1.symm.trans z) (by decide), fun _ z => absurd (h2.symm.trans z) (by decide), fun _ _ z => absurd (h2.symm.trans z) (by decide), fun i' j' l' q1 q2 q3 _ _ _ _ _ _ => ?_⟩
    cases q1; cases q2; cases q3
    exact k i j rfl rfl i1 i2 j1 j2
def spLaggingInit (K : PySem.W.Frag) (B D f2 : Addr) : Sp := fun vs H Q E => ∃ (x C dx : Addr) (p b : V) (tp tb : String), vs = [.ref x, p, b] ∧ WCls K C ∧ SupAt K C D f2 "__init__" ∧ H x = some (.ins C dx []) ∧ NT H p tp ∧ NT H b tb ∧
  (betB 2 1000000000000 p = false → ErrP H B E "period") ∧
  (betB 2 1000000000000 p = true → betB 0 1000000000000 b = false → ErrP H B E "lag") ∧
  (∀ i j : Int, p = .int i → b = .int j → 2 ≤ i → i ≤ 1000000000000 → 0 ≤ j → j ≤ 1000000000000 → Q .non (upd H x (.ins C dx [("period", .int i), ("back", .int j), ("ahead", .int 0)])))
theorem ok_Lagging_init (HP : PrF lawFile P) (T : Txt K mg) : FnOk P w K mg base (L2.CX P w) 5 T.a_Lagging_init T.fd_Lagging_init ["self", "period", "lag"] (spLaggingInit K T.bad.C T.a_Lagging T.a_Wheel_init) := by
  refine T.F_Lagging_init.okX sc_Lagging_init T.so_Lagging_init (fun vs H Q E h => ?_) (fun A outer s H vs Q E hr h => ?_)
  · obtain ⟨x, C, dx, p, b, tp, tb, rfl, _⟩ := h; rfl
  · obtain ⟨x, C, dx, p, b, tp, tb, rfl, cW, sa, hx, hp, hb, e1, e2, k⟩ := h
    refine ⟨_, psup_cons (ps_expr (pe_call (ok_need_part T) (hr.mono (by decide)) rfl T.m_need_part T.F_need_part.kp (b_need_part T) .nil (passes_call (takes_of rfl rfl rfl rfl) (fun _ _ _ _ h => h)) (pa_cons (pv 1) (pa_cons pe_int (pa_cons pe_str pa_nil)))))
      (psup_cons (ps_expr (pe_call (ok_need_part T) (hr.mono (by decide)) rfl T.m_need_part T.F_need_part.kp (b_need_part T) .nil (passes_call (takes_of rfl rfl rfl rfl) (fun _ _ _ _ h => h)) (pa_cons (pv 2) (pa_cons pe_int (pa_cons pe_str pa_nil)))))
      (psup_super (T.so_Lagging_init.of HP T.F_Lagging_init rfl) ((ok_Wheel_init T).raw (b_Wheel_init T) .nil) (hr.mono (by decide)) (passes_call (takes_of rfl rfl rfl rfl) (fun _ _ _ _ h => h)) (pa_cons (pv 1) (pa_cons (pv 2) (pa_cons pe_int pa_nil))) rfl rfl rfl rfl rfl rfl rfl)), ?_⟩
    refine ⟨_, rfl, p, tp, 2, "period", rfl, hp, ?_⟩
    refine ite2 (fun h1 => ?_) (fun h1 => e1 (Bool.eq_false_iff.mpr h1))
    refine ⟨_, rfl, b, tb, 0, "lag", rfl, hb, ?_⟩
    refine ite2 (fun h2 => ?_) (fun h2 => e2 h1 (Bool.eq_false_iff.mpr h2))
    obtain ⟨i, rfl, i1, i2⟩ := betB_get h1
    obtain ⟨j, rfl, j1, j2⟩ := betB_get h2
    refine ⟨x, C, dx, [], rfl, hx, sa, _, rfl, _, rfl, x, C, dx, .int i, .int j, .int 0, "int", "int", "int", rfl, cW, hx, .int _, .int _, .int _, fun z => absurd (h1.symm.trans z) (by decide), fun _ z => absurd (h2.symm.trans z) (by decide), fun _ _ z => absurd ((show betB 0 1000000000000 (.int 0) = true by decide).symm.trans z) (by decide), fun i' j' l' q1 q2 q3 _ _ _ _ _ _ => ?_⟩
    cases q1; cases q2; cases q3
    exact k i j rfl rfl i1 i2 j1 j2
def spOneInit (K : PySem.W.Frag) (B D f2 : Addr) : Sp := fun vs H Q E => ∃ (x C dx : Addr) (p : V) (tp : String), vs = [.ref x, p] ∧ WCls K C ∧ SupAt K C D f2 "__init__" ∧ H x = some (.ins C dx []) ∧ NT H p tp ∧
  (betB 2 1000000000000 p = false → ErrP H B E "period") ∧
  (∀ i : Int, p = .int i → 2 ≤ i → i ≤ 1000000000000 → Q .non (upd H x (.ins C dx [("period", .int i), ("back", .int 0), ("ahead", .int 0)])))
theorem ok_Exact_init (HP : PrF lawFile P) (T : Txt K mg) : FnOk P w K mg base (L2.CX P w) 5 T.a_Exact_init T.fd_Exact_init ["self", "period"] (spOneInit K T.bad.C T.a_Exact T.a_Wheel_init) := by
  refine T.F_Exact_init.okX sc_Exact_init T.so_Exact_init (fun vs H Q E h => ?_) (fun A outer s H vs Q E hr h => ?_)
  · obtain ⟨x, C, dx, p, tp, rfl, _⟩ := h; rfl
  · obtain ⟨x, C, dx, p, tp, rfl, cW, sa, hx, hp, e1, k⟩ := h
    refine ⟨_, psup_super (T.so_Exact_init.of HP T.F_Exact_init rfl) ((ok_Wheel_init T).raw (b_Wheel_init T) .nil) (hr.mono (by decide)) (passes_call (takes_of rfl rfl rfl rfl) (fun _ _ _ _ h => h)) (pa_cons (pv 1) (pa_cons pe_int (pa_cons pe_int pa_nil))) rfl rfl rfl rfl rfl rfl rfl, ?_⟩
    have z0 : betB 0 1000000000000 (.int 0) = true := by decide
    refine ⟨x, C, dx, [], rfl, hx, sa, _, rfl, x, C, dx, p, .int 0, .int 0, tp, "int", "int", rfl, cW, hx, hp, .int _, .int _, e1, fun _ z => absurd (z0.symm.trans z) (by decide), fun _ _ z => absurd (z0.symm.trans z) (by decide), fun i' j' l' q1 q2 q3 i1 i2 _ _ _ _ => ?_⟩
    subst q1
    cases q2; cases q3
    exact k i' rfl i1 i2
theorem ok_Grid_init (HP : PrF lawFile P) (T : Txt K mg) : FnOk P w K mg base (L2.CX P w) 5 T.a_Grid_init T.fd_Grid_init ["self", "period"] (spOneInit K T.bad.C T.a_Grid T.a_Wheel_init) := by
  refine T.F_Grid_init.okX sc_Grid_init T.so_Grid_init (fun vs H Q E h => ?_) (fun A outer s H vs Q E hr h => ?_)
  · obtain ⟨x, C, dx, p, tp, rfl, _⟩ := h; rfl
  · obtain ⟨x, C, dx, p, tp, rfl, cW, sa, hx, hp, e1, k⟩ := h
    refine ⟨_, psup_super (T.so_Grid_init.of HP T.F_Grid_init rfl) ((ok_Wheel_init T).raw (b_Wheel_init T) .nil) (hr.mono (by decide)) (passes_call (takes_of rfl rfl rfl rfl) (fun _ _ _ _ h => h)) (pa_cons (pv 1) (pa_cons pe_int (pa_cons pe_int pa_nil))) rfl rfl rfl rfl rfl rfl rfl, ?_⟩
    have z0 : betB 0 1000000000000 (.int 0) = true := by decide
    refine ⟨x, C, dx, [], rfl, hx, sa, _, rfl, x, C, dx, p, .int 0, .int 0, tp, "int", "int", rfl, cW, hx, hp, .int _, .int _, e1, fun _ z => absurd (z0.symm.trans z) (by decide), fun _ _ z => absurd (z0.symm.trans z) (by decide), fun i' j' l' q1 q2 q3 i1 i2 _ _ _ _ => ?_⟩
    subst q1
    cases q2; cases q3
    exact k i' rfl i1 i2

/-! ### the draws -/
def spPen (K : PySem.W.Frag) : Sp := fun vs H Q _ => ∃ (a : Addr) (ns : List Int), vs = [.ref a] ∧ SqL K H a (ns.map V.int) ∧ ns.length ≤ 63 ∧ ∀ (p : Addr) (H' : Hp), Same H H' → Pen H' p 0 → Q (.ref p) H'
theorem ok_pen (T : Txt K mg) : FnOk P w K mg base CX0 1 T.a_pen T.fd_pen ["_law_script"] (spPen K) := by
  refine T.F_pen.ok sc_pen (fun vs H Q E h => ?_) (fun cdv A outer s H vs Q E hr h => ?_)
  · obtain ⟨a, ns, rfl, _⟩ := h; rfl
  · obtain ⟨a, ns, rfl, hS, hl, k⟩ := h
    refine ⟨_, pss_one (ps_ret (pe_lst (pa_cons (pe_callTy call_list_of (by rfl) T.n_list (by decide +kernel) (pa_cons (pe_slice sl_list (pv 0) (po_none) (po_some (pe_int))) (pa_nil))) (pa_cons (pe_int) (pa_cons (pe_int) (pa_nil)))))), ?_⟩
    obtain ⟨ms, em, lm⟩ := cut_ints ns none (some 63)
    refine ⟨_, rfl, _, rfl, a, _, rfl, hS, fun q hq => ?_⟩
    refine ⟨q, _, rfl, .inl (SqL.of upd_same), fun l hl => ?_⟩
    refine ⟨(by show 3 ≤ sizeLine; decide), fun p hp => k p _ ?_ ?_⟩
    · exact (same_new hq).trans ((same_new hl).trans (same_new hp))
    · refine ⟨l, ms, 0, 0, upd_same, ?_, by omega, by omega, by omega, by omega⟩
      rw [upd_ne (ne_of_none upd_same hp), upd_same, em]
def spDraw : Sp := fun vs H Q _ => ∃ (p : Addr) (m : Int) (n : Nat), vs = [.ref p, .int m] ∧ 0 < m ∧ m < 1267650600228229401496703205376 ∧ Pen H p n ∧ n < 100000 ∧ ∀ (r : Int) (H' : Hp), 0 ≤ r → r < m → Pen H' p (n + 1) → Fr p H H' → Q (.int r) H'
theorem ok_draw (T : Txt K mg) : FnOk P w K mg base CX0 1 T.a_draw T.fd_draw ["_law_pen_here", "_law_many"] spDraw := by
  refine T.F_draw.ok sc_draw (fun vs H Q E h => ?_) (fun cdv A outer s H vs Q E hr h => ?_)
  · obtain ⟨p, m, n, rfl, _⟩ := h; rfl
  · obtain ⟨p, m, n, rfl, hm, hm2, ⟨c, ns, i, g, hp, hc, i0, i1, g0, hl⟩, hn, k⟩ := h
    have cp : c ≠ p := pen_ne hp hc
    have mb : m.natAbs < 2 ^ 100 := by omega
    refine ⟨_, pss_cons (ps_if (pt_cmpR op_gt (pe_ix ix_list (pv 0) (pe_int) (fun _ _ => rfl)) (pe_int) (nomark _)) (pss_cons (ps_set (i := 2) sc_draw.nd rfl (Or.inl rfl) (pe_op op_modN (pe_callTy call_int1 (by rfl) T.n_int (by decide +kernel) (pa_cons (pe_ix ix_list (pv 0) (pe_int) (fun _ _ => rfl)) (pa_nil))) (pv 1)))
      (pss_cons (ps_asg (pe_op op_fdivW (pe_callTy call_int1 (by rfl) T.n_int (by decide +kernel) (pa_cons (pe_ix ix_list (pv 0) (pe_int) (fun _ _ => rfl)) (pa_nil))) (pv 1)) (pg_sub (pv 0) (pe_int) set_list))
      (pss_one (ps_ret (pv 2))))) (pss_nil))
      (pss_cons (ps_set (i := 3) sc_draw.nd rfl (Or.inl rfl) (pe_ix ix_list (pv 0) (pe_int) (fun _ _ => rfl)))
      (pss_cons (ps_asg (pe_op op_add (pv 3) (pe_int)) (pg_sub (pv 0) (pe_int) set_list))
      (pss_cons (ps_set (i := 4) sc_draw.nd rfl (Or.inl rfl) (pe_op op_add (pe_op op_mul (pe_int) (pv 3)) (pe_int)))
      (C8.pss_cut (ps_if (pt_cmpR (op_neD hr.units) (pe_ix ix_list (pv 0) (pe_int) (fun _ _ => rfl)) (pe_lst (pa_nil)) (nomark _)) (pss_one (ps_set (i := 4) sc_draw.nd rfl (Or.inl rfl) (pe_ix ix_list (pe_ix ix_list (pv 0) (pe_int) (fun _ _ => rfl)) (pe_op op_modN (pe_callTy call_int1 (by rfl) T.n_int (by decide +kernel) (pa_cons (pv 3) (pa_nil))) (pe_callB call_len_seq (by rfl) T.n_len (by decide +kernel) (pa_cons (pe_ix ix_list (pv 0) (pe_int) (fun _ _ => rfl)) (pa_nil)))) (fun _ _ => rfl)))) (pss_nil))
      (C8.pss_cut (ps_if (PW.pt (pw_and (pt_cmpR op_lt (pv 3) (pe_callB call_len_seq (by rfl) T.n_len (by decide +kernel) (pa_cons (pe_ix ix_list (pv 0) (pe_int) (fun _ _ => rfl)) (pa_nil))) (nomark _)) (pw_and1 (pt_cmpR op_ge (pe_callB call_abs (by rfl) T.n_abs (by decide +kernel) (pa_cons (pv 4) (pa_nil))) (pe_op op_pow (pe_int) (pe_int)) (nomark _))))) (pss_cons (ps_set (i := 5) sc_draw.nd rfl (Or.inl rfl) (pe_op op_add (pe_op op_mul (pe_int) (pe_op op_sub (pe_callB call_abs (by rfl) T.n_abs (by decide +kernel) (pa_cons (pv 4) (pa_nil))) (pe_op op_pow (pe_int) (pe_int)))) (pe_callTy call_int1 (by rfl) T.n_int (by decide +kernel) (pa_cons (pe_cmpR op_lt (pv 4) (pe_int) (nomark _)) (pa_nil)))))
      (pss_cons (ps_asg (pe_op op_fdivW (pe_callTy call_int1 (by rfl) T.n_int (by decide +kernel) (pa_cons (pv 5) (pa_nil))) (pv 1)) (pg_sub (pv 0) (pe_int) set_list))
      (pss_one (ps_ret (pe_op op_modN (pe_callTy call_int1 (by rfl) T.n_int (by decide +kernel) (pa_cons (pv 5) (pa_nil))) (pv 1)))))) (pss_nil))
      (pss_cons (ps_set (i := 6) sc_draw.nd rfl (Or.inl rfl) (pe_op op_modN (pe_callTy call_int1 (by rfl) T.n_int (by decide +kernel) (pa_cons (pe_op op_pow (pe_op op_add (pe_op op_add (pe_op op_modN (pe_callTy call_int1 (by rfl) T.n_int (by decide +kernel) (pa_cons (pv 4) (pa_nil))) (pe_int)) (pe_op op_mul (pe_int) (pv 3))) (pe_int)) (pe_int)) (pa_nil))) (pe_int)))
      (pss_cons (ps_set (i := 6) sc_draw.nd rfl (Or.inl rfl) (pe_op op_modN (pe_callTy call_int1 (by rfl) T.n_int (by decide +kernel) (pa_cons (pe_op op_pow (pe_op op_add (pe_op op_add (pe_op op_mul (pv 6) (pe_op op_add (pe_op op_mul (pe_int) (pv 3)) (pe_int))) (pe_op op_mul (pe_op op_mul (pe_int) (pv 3)) (pv 3))) (pe_int)) (pe_int)) (pa_nil))) (pe_int)))
      (pss_one (ps_ret (pe_op op_modN (pe_callTy call_int1 (by rfl) T.n_int (by decide +kernel) (pa_cons (pe_op op_fdivW (pv 6) (pe_int)) (pa_nil))) (pv 1))))))))))), ?_⟩
    refine ⟨_, rfl, p, _, _, _, rfl, rfl, SqL.of hp, rfl, _, _, rfl, rfl, _, rfl, ?_⟩
    refine ite2 (fun hg => ?_) (fun hg => ?_)
    · refine ⟨_, rfl, p, _, _, _, rfl, rfl, SqL.of hp, rfl, .inl ⟨_, rfl, ?_⟩⟩
      refine ⟨_, rfl, _, _, rfl, rfl, (by omega), ?_⟩
      refine ⟨_, rfl, p, _, _, _, rfl, rfl, SqL.of hp, rfl, .inl ⟨_, rfl, ?_⟩⟩
      refine ⟨_, rfl, _, _, rfl, rfl, wide_div hm mb (by decide) (by decide), ?_⟩
      refine ⟨_, rfl, p, _, _, _, rfl, rfl, hp, rfl, _, rfl, ?_⟩
      have fm := fmod_pos (x := g) hm
      refine k _ _ fm.1 fm.2 ⟨c, ns, i, g / m, upd_same, ?_, i0, by omega, Int.ediv_nonneg g0 (by omega), hl⟩ (fr_upd hp)
      rw [upd_ne cp]; exact hc
    · refine ⟨_, rfl, p, _, _, _, rfl, rfl, SqL.of hp, rfl, ?_⟩
      refine ⟨_, rfl, _, _, rfl, rfl, _, rfl, p, _, _, _, rfl, rfl, hp, rfl, ?_⟩
      -- the index is one more
      have f1 : Fr p H (upd H p (.lst [.ref c, .int (i + 1), .int g])) := fr_upd hp
      have hp1 : (upd H p (.lst [.ref c, .int (i + 1), .int g])) p = some (.lst [.ref c, .int (i + 1), .int g]) := upd_same
      have hc1 : (upd H p (.lst [.ref c, .int (i + 1), .int g])) c = some (.lst (ns.map V.int)) := by rw [upd_ne cp]; exact hc
      show _
      refine ⟨_, rfl, _, _, rfl, rfl, .inl ⟨by decide, by decide⟩, _, _, rfl, rfl, ?_⟩
      refine ⟨fun σ' H' => ∃ raw : Int, σ' = [some (.ref p), some (.int m), Option.none, some (.int i), some (.int raw), Option.none, Option.none] ∧ Same (upd H p (.lst [.ref c, .int (i + 1), .int g])) H', ?_, ?_⟩
      · refine ⟨_, rfl, p, _, _, _, rfl, rfl, SqL.of hp1, rfl, Nat.zero_le _, fun l hl0 => ?_⟩
        refine ⟨.list (ns.map PyData.int), .list [], .lst (SqL.of (same_new hl0 _ _ hc1)) (dp_ints ns), .lst (SqL.of upd_same) .nil, PySem.W.ke_shaped_ints ns, by decide +kernel, _, rfl, ?_⟩
        have s1 := same_new (o := .lst []) hl0
        cases ns with
        | nil => exact iteF ⟨_, rfl, s1⟩
        | cons z r =>
          refine iteT ?_
          refine ⟨_, rfl, p, _, _, _, rfl, rfl, SqL.of (s1 _ _ hp1), rfl, ?_⟩
          refine ⟨_, rfl, .inl ⟨_, rfl, ?_⟩⟩
          refine ⟨_, rfl, p, _, _, _, rfl, rfl, SqL.of (s1 _ _ hp1), rfl, c, _, rfl, .inl (SqL.of (s1 _ _ hc1)), _, _, rfl, rfl, ?_⟩
          have lp : (0 : Int) < (((z :: r).map V.int).length : Nat) := by rw [List.length_map, List.length_cons]; omega
          have fm := fmod_pos (x := i) lp
          have fm2 : i.fmod (((z :: r).map V.int).length : Nat) < (((z :: r).length : Nat) : Int) := by have := fm.2; rw [List.length_map] at this; rw [List.length_map]; exact this
          obtain ⟨y, hy⟩ := atI_in fm.1 fm2
          exact ⟨by omega, c, _, _, _, rfl, rfl, SqL.of (s1 _ _ hc1), hy, y, rfl, s1⟩
      · rintro σ' H' ⟨raw, rfl, s1⟩
        have hp2 := s1 _ _ hp1
        have hc2 := s1 _ _ hc1
        have f2 : Fr p H H' := f1.trans (same_fr s1)
        have penE : ∀ g' : Int, 0 ≤ g' → Pen (upd H' p (.lst [.ref c, .int (i + 1), .int g'])) p (n + 1) := fun g' h' => ⟨c, ns, i + 1, g', upd_same, by rw [upd_ne cp]; exact hc2, by omega, by omega, h', hl⟩
        refine ⟨fun σ'' H'' => σ'' = [some (.ref p), some (.int m), Option.none, some (.int i), some (.int raw), Option.none, Option.none] ∧ H'' = H', ?_, ?_⟩
        rotate_left
        · rintro σ'' H'' ⟨rfl, rfl⟩
          refine ⟨_, rfl, .inl ⟨_, rfl, ?_⟩⟩
          refine ⟨_, _, rfl, rfl, (by show (_ : Int) ≠ 0; decide), _, rfl, _, _, rfl, rfl, .inl ⟨by decide, by decide⟩, _, _, rfl, rfl, _, _, rfl, rfl, ?_⟩
          have r1 := fmod_pos (x := raw) (m := 2147483549) (by decide)
          refine ⟨_, _, rfl, rfl, ⟨by decide, by decide, stir1 r1.1 (by omega) i0 (by omega) (by decide) (by decide) (by decide) (by decide)⟩, .inl ⟨_, rfl, ?_⟩⟩
          refine ⟨_, _, rfl, rfl, (by show (_ : Int) ≠ 0; decide), ?_⟩
          have r2 : ∀ x : Int, 0 ≤ x.fmod 2147483629 ∧ x.fmod 2147483629 < 2147483629 := fun x => fmod_pos (by decide)
          refine ⟨_, rfl, _, rfl, _, _, rfl, rfl, .inl ⟨by decide, by decide⟩, _, _, rfl, rfl, _, _, rfl, rfl, .inl (small64 (r2 _).1 (Int.lt_trans (r2 _).2 (by decide))), ?_⟩
          refine ⟨_, rfl, _, _, rfl, rfl, .inl ⟨by decide, by decide⟩, _, rfl, _, _, rfl, rfl, .inr ⟨by omega, by omega⟩, _, _, rfl, rfl, _, _, rfl, rfl, ?_⟩
          refine ⟨_, _, rfl, rfl, ⟨by decide, by decide, stir2 (r2 _).1 (Int.lt_trans (r2 _).2 (by decide)) i0 (by omega) (by decide) (by decide) (by decide) (by decide) (by decide) (by decide)⟩, .inl ⟨_, rfl, ?_⟩⟩
          refine ⟨_, _, rfl, rfl, (by show (_ : Int) ≠ 0; decide), ?_⟩
          refine ⟨_, rfl, _, _, rfl, rfl, wide_div (b := 10) (by decide) (by decide) (by decide) (by decide), .inl ⟨_, rfl, ?_⟩⟩
          refine ⟨_, rfl, _, _, rfl, rfl, (by omega), ?_⟩
          have fm := fun x => fmod_pos (x := x) hm
          exact k _ _ (fm _).1 (fm _).2 ⟨c, ns, i + 1, g, hp2, hc2, by omega, by omega, g0, hl⟩ f2
        refine ⟨_, rfl, _, rfl, p, _, _, _, rfl, rfl, SqL.of hp2, rfl, c, _, rfl, .inl (SqL.of hc2), _, _, rfl, rfl, _, rfl, ?_⟩
        refine ite2 (fun hlt => ?_) (fun hlt => ?_)
        · refine ⟨_, rfl, _, rfl, _, _, rfl, rfl, ⟨by decide, by decide, by decide⟩, _, _, rfl, rfl, _, rfl, ?_⟩
          refine ite2 (fun hge => ?_) (fun hge => ?_)
          · have hge := of_decide_eq_true hge
            refine ⟨_, rfl, _, rfl, _, _, rfl, rfl, ⟨by decide, by decide, by decide⟩, _, _, rfl, rfl, _, _, rfl, rfl, .inl ⟨by decide, by decide⟩, ?_⟩
            refine ⟨_, rfl, _, _, rfl, rfl, .inr ⟨_, rfl, ?_⟩⟩
            refine ⟨_, _, rfl, rfl, ?_⟩
            have gpos : (0 : Int) ≤ 2 * ((if raw < 0 then -raw else raw) - 10 ^ (18 : Int).toNat) + (if decide (raw < 0) = true then 1 else 0) := by
              have : (0 : Int) ≤ (if decide (raw < 0) = true then 1 else 0) := by split <;> omega
              omega
            refine ⟨_, rfl, .inl ⟨_, rfl, ?_⟩⟩
            refine ⟨_, rfl, _, _, rfl, rfl, wide_div hm mb (by decide) (by decide), ?_⟩
            refine ⟨_, rfl, p, _, _, _, rfl, rfl, hp2, rfl, ?_⟩
            refine ⟨_, rfl, .inl ⟨_, rfl, ?_⟩⟩
            refine ⟨_, rfl, _, _, rfl, rfl, (by omega), ?_⟩
            have fm := fun x => fmod_pos (x := x) hm
            exact k _ _ (fm _).1 (fm _).2 (penE _ (Int.ediv_nonneg gpos (by omega))) (f2.trans (fr_upd hp2))
          · exact ⟨rfl, rfl⟩
        · exact ⟨rfl, rfl⟩

def spPick (K : PySem.W.Frag) : Sp := fun vs H Q _ => ∃ (p l : Addr) (xs : List V) (n : Nat), vs = [.ref p, .ref l] ∧ SqL K H l xs ∧ l ≠ p ∧ 0 < xs.length ∧ xs.length < 1000000 ∧ Pen H p n ∧ n < 100000 ∧ ∀ (x : V) (H' : Hp), x ∈ xs → Pen H' p (n + 1) → Fr p H H' → Q x H'
theorem ok_pick (T : Txt K mg) : FnOk P w K mg base CX0 2 T.a_pick T.fd_pick ["_law_pen_here", "_law_some"] (spPick K) := by
  refine T.F_pick.ok sc_pick (fun vs H Q E h => ?_) (fun cdv A outer s H vs Q E hr h => ?_)
  · obtain ⟨p, l, xs, n, rfl, _⟩ := h; rfl
  · obtain ⟨p, l, xs, n, rfl, hS, hne, h0, h1, hP, hn, k⟩ := h
    refine ⟨_, pss_one (ps_ret (pe_ix ix_list (pv 1) (pe_call (ok_draw T) (hr.mono (by decide)) rfl T.m_draw T.F_draw.kp (b_draw T) .nil pass0 (pa_cons (pv 0) (pa_cons (pe_callB call_len_seq (by rfl) T.n_len (by decide +kernel) (pa_cons (pv 1) (pa_nil))) (pa_nil)))) (fun _ _ => rfl))), ?_⟩
    refine ⟨_, rfl, _, rfl, _, rfl, l, xs, rfl, .inl hS, p, _, n, rfl, (by omega), (by omega), hP, hn, fun r H' r0 r1 hP' fr => ?_⟩
    obtain ⟨x, hx, he⟩ := atI_any r0 r1
    exact ⟨l, xs, _, x, rfl, rfl, fr.seq hne hS, he, k x H' hx hP' fr⟩
/-! ### what is neither the pen nor a table stays -/
open Classical in
noncomputable def core (p : Addr) (H : Hp) : Hp := fun b => if b = p ∨ ∃ ps, H b = some (.tbl ps) then Option.none else H b
theorem core_sub {p : Addr} {H : Hp} : Same (core p H) H := fun b o e => by
  unfold core at e
  split at e
  · cases e
  · exact e
theorem core_at {p : Addr} {H : Hp} {a : Addr} {o : HO} (h : H a = some o) (n : a ≠ p) (nt : ∀ ps, o ≠ .tbl ps) : core p H a = some o := by
  unfold core
  rw [if_neg]
  · exact h
  · rintro (z | ⟨ps, z⟩)
    · exact n z
    · rw [h] at z
      exact nt ps (Option.some.inj z)
theorem core_of {p : Addr} {H : Hp} {a : Addr} {o : HO} (h : core p H a = some o) : a ≠ p ∧ (∀ ps, o ≠ .tbl ps) ∧ H a = some o := by
  have h2 := core_sub _ _ h
  unfold core at h
  split at h
  · cases h
  · rename_i n
    exact ⟨fun z => n (.inl z), fun ps z => n (.inr ⟨ps, z ▸ h2⟩), h2⟩
theorem core_fr {p : Addr} {H H' : Hp} (e : Fr p H H') : Same (core p H) H' := fun b o q => by
  obtain ⟨q1, _, q3⟩ := core_of q
  exact e b o q1 q3
theorem core_same {p : Addr} {H H' : Hp} (e : Same H H') : Same (core p H) H' := fun b o q => e b o (core_of q).2.2
theorem core_up {p : Addr} {H H' : Hp} (e : Same (core p H) H') : Same (core p H) (core p H') := fun b o q => by
  obtain ⟨q1, q2, _⟩ := core_of q
  exact core_at (e b o q) q1 q2
theorem SqL.same {K : PySem.W.Frag} {H H' : Hp} {a : Addr} {xs : List V} (s : Same H H') (h : SqL K H a xs) : SqL K H' a xs := by
  rcases h with (h | ⟨o, h⟩) | h
  · exact .inl (.inl (s _ _ h))
  · exact .inl (.inr ⟨o, s _ _ h⟩)
  · exact .inr h

/-- what is read off a wheel of the class at C besides its parts -/
structure WPr (T : Txt K mg) (C : Addr) (tr : Bool) : Prop where
  w : WCls K C
  con : ∃ u, Con K C "TRUSTED" (.bl tr) u
  play : PropOf K C "play" T.p_play T.a_Wheel_play
  trusted : PropOf K C "trusted" T.p_trusted T.a_Wheel_trusted
  never : PropOf K C "never_parts" T.p_never_parts T.a_Wheel_never_parts
def spTrusted (T : Txt K mg) : Sp := fun vs H Q _ => ∃ (x C : Addr) (p b a : Int) (tr : Bool), vs = [.ref x] ∧ WPr T C tr ∧ WhAt H C x p b a ∧ Q (.bl tr) H
theorem ok_Wheel_trusted (T : Txt K mg) : FnOk P w K mg base CX0 1 T.a_Wheel_trusted T.fd_Wheel_trusted ["self"] (spTrusted T) := by
  refine T.F_Wheel_trusted.ok sc_Wheel_trusted (fun vs H Q E h => ?_) (fun cdv A outer s H vs Q E hr h => ?_)
  · obtain ⟨x, C, p, b, a, tr, rfl, _⟩ := h; rfl
  · obtain ⟨x, C, p, b, a, tr, rfl, cW, ⟨dx, hx⟩, k⟩ := h
    obtain ⟨u, hu⟩ := cW.con
    refine ⟨_, pss_one (ps_ret (pe_con (pv 0) rfl)), ?_⟩
    exact ⟨_, rfl, x, C, dx, _, _, u, rfl, hx, cW.w.cls, hu, rfl, k⟩
def spPlay (T : Txt K mg) : Sp := fun vs H Q _ => ∃ (x C : Addr) (p b a : Int) (tr : Bool), vs = [.ref x] ∧ WPr T C tr ∧ WhAt H C x p b a ∧ Q (.int (b + a)) H
theorem ok_Wheel_play (T : Txt K mg) : FnOk P w K mg base CX0 1 T.a_Wheel_play T.fd_Wheel_play ["self"] (spPlay T) := by
  refine T.F_Wheel_play.ok sc_Wheel_play (fun vs H Q E h => ?_) (fun cdv A outer s H vs Q E hr h => ?_)
  · obtain ⟨x, C, p, b, a, tr, rfl, _⟩ := h; rfl
  · obtain ⟨x, C, p, b, a, tr, rfl, cW, ⟨dx, hx⟩, k⟩ := h
    refine ⟨_, pss_one (ps_ret (pe_op op_add (pe_fld (pv 0) rfl) (pe_fld (pv 0) rfl))), ?_⟩
    refine ⟨_, rfl, x, C, dx, _, _, rfl, hx, cW.w.cls, cW.w.na _ (by simp), rfl, ?_⟩
    refine ⟨_, rfl, x, C, dx, _, _, rfl, hx, cW.w.cls, cW.w.na _ (by simp), rfl, ?_⟩
    exact ⟨_, _, rfl, rfl, k⟩
def spNever (T : Txt K mg) : Sp := fun vs H Q _ => ∃ (x C : Addr) (p b a : Int) (tr : Bool), vs = [.ref x] ∧ WPr T C tr ∧ WhAt H C x p b a ∧ (0 ≤ b ∧ b ≤ 1000000000000 ∧ 0 ≤ a ∧ a ≤ 1000000000000) ∧ Q (.bl (decide (p ≤ 2 * (b + a) + 1))) H
theorem ok_Wheel_never_parts (T : Txt K mg) : FnOk P w K mg base CX0 3 T.a_Wheel_never_parts T.fd_Wheel_never_parts ["self"] (spNever T) := by
  refine T.F_Wheel_never_parts.ok sc_Wheel_never_parts (fun vs H Q E h => ?_) (fun cdv A outer s H vs Q E hr h => ?_)
  · obtain ⟨x, C, p, b, a, tr, rfl, _⟩ := h; rfl
  · obtain ⟨x, C, p, b, a, tr, rfl, cW, ⟨dx, hx⟩, hb, k⟩ := h
    refine ⟨_, pss_one (ps_ret (pe_cmpR op_ge (pe_op op_add (pe_op op_mul (pe_int) (pe_propW (pv 0) T.p_play (ok_Wheel_play T) (hr.mono (by decide)) (b_Wheel_play T) .nil pass0 rfl)) (pe_int)) (pe_fld (pv 0) rfl) (nomark _))), ?_⟩
    refine ⟨_, rfl, x, C, dx, _, rfl, hx, cW.w.cls, cW.play, x, C, p, b, a, tr, rfl, cW, ⟨dx, hx⟩, ?_⟩
    refine ⟨_, _, rfl, rfl, (by first | decide | (constructor <;> omega) | omega), _, _, rfl, rfl, ?_⟩
    refine ⟨_, rfl, x, C, dx, _, _, rfl, hx, cW.w.cls, cW.w.na _ (by simp), rfl, ?_⟩
    exact ⟨_, _, rfl, rfl, k⟩
/-- a drawn part of a wheel -/
def spPart : Sp := fun vs H Q _ => ∃ (p : Addr) (lo : Int) (n : Nat), vs = [.ref p, .int lo] ∧ 0 ≤ lo ∧ lo ≤ 7 ∧ Pen H p n ∧ n < 90000 ∧ ∀ (r : Int) (H' : Hp), lo ≤ r → r ≤ 1000000000000 → Pen H' p (n + 2) → Fr p H H' → Q (.int r) H'
theorem ok_part (T : Txt K mg) : FnOk P w K mg base CX0 3 T.a_part T.fd_part ["_law_pen_here", "_law_least"] spPart := by
  refine T.F_part.ok sc_part (fun vs H Q E h => ?_) (fun cdv A outer s H vs Q E hr h => ?_)
  · obtain ⟨p, lo, n, rfl, _⟩ := h; rfl
  · obtain ⟨p, lo, n, rfl, l0, l7, hP, hn, k⟩ := h
    refine ⟨_, pss_one (ps_ret (pe_call (ok_pick T) (hr.mono (by decide)) rfl T.m_pick T.F_pick.kp (b_pick T) .nil pass0 (pa_cons (pv 0) (pa_cons (pe_lst (pa_cons (pv 1) (pa_cons (pe_op op_add (pv 1) (pe_int)) (pa_cons (pe_int) (pa_cons (pe_int) (pa_cons (pe_op op_pow (pe_int) (pe_int)) (pa_cons (pe_op op_sub (pe_op op_pow (pe_int) (pe_int)) (pe_int)) (pa_cons (pe_op op_add (pv 1) (pe_call (ok_draw T) (hr.mono (by decide)) rfl T.m_draw T.F_draw.kp (b_draw T) .nil pass0 (pa_cons (pv 0) (pa_cons (pe_int) (pa_nil))))) (pa_nil))))))))) (pa_nil))))), ?_⟩
    have hw : CPow 10 12 := ⟨by decide, by decide, by decide⟩
    refine ⟨_, rfl, _, rfl, _, rfl, _, _, rfl, rfl, _, _, rfl, rfl, hw, _, _, rfl, rfl, hw, _, _, rfl, rfl, ?_⟩
    refine ⟨_, rfl, _, rfl, p, 99, n, rfl, (by decide), (by decide), hP, (by omega), fun r H1 r0 r1 hP1 f1 => ?_⟩
    refine ⟨_, _, rfl, rfl, (by show 7 ≤ sizeLine; decide), fun l hl => ?_⟩
    have sl := same_new (o := .lst [V.int lo, V.int (lo + 1), V.int 7, V.int 10, V.int (10 ^ Int.toNat 12), V.int (10 ^ Int.toNat 12 - 1), V.int (lo + r)]) hl
    refine ⟨p, l, [V.int lo, V.int (lo + 1), V.int 7, V.int 10, V.int (10 ^ Int.toNat 12), V.int (10 ^ Int.toNat 12 - 1), V.int (lo + r)], n + 1, rfl, SqL.of upd_same, hP1.neq hl, (by show 0 < 7; decide), (by show 7 < 1000000; decide), hP1.same sl, by omega, fun x H' hx hP' fr => ?_⟩
    have fr2 : Fr p H H' := f1.trans ((same_fr sl).trans fr)
    have e12 : (10 : Int) ^ Int.toNat 12 = 1000000000000 := by decide
    rw [e12] at hx
    simp only [List.mem_cons, List.not_mem_nil, or_false] at hx
    rcases hx with rfl | rfl | rfl | rfl | rfl | rfl | rfl <;> exact k _ _ (by omega) (by omega) hP' fr2

theorem shown_int120 {i : Int} (h : i.natAbs < 10 ^ 120) : (PyData.shown (.int i)).length ≤ 121 := by
  have e := int_text_length_le10 (k := 120) (by decide) h
  show (Str.ofString (toString i)).length ≤ 121
  rw [PySem.ofString_length]; exact e
theorem log_int120 {i : Int} (h : i.natAbs < 10 ^ 120) : i.natAbs.log2 < 399 := by
  by_cases n0 : i.natAbs = 0
  · rw [n0]; decide
  · exact (Nat.log2_lt n0).mpr (Nat.lt_of_lt_of_le h (by decide +kernel))
theorem weight_int120 {i : Int} (h : i.natAbs < 10 ^ 120) : (PyData.int i).weight ≤ 400 := by
  have l := log_int120 h
  simp only [PyData.weight]
  split <;> omega
/-- shown without harm -/
def Fine (n : Nat) (d : PyData) : Prop := d.showable = true ∧ d.leavesShort 121 = true ∧ d.weight ≤ n
theorem Fine.int {i : Int} (h : i.natAbs < 10 ^ 120) : Fine 400 (.int i) := by
  have l := log_int120 h
  refine ⟨?_, ?_, weight_int120 h⟩
  · simp only [PyData.showable, decide_eq_true_eq]; omega
  · simp only [PyData.leavesShort, decide_eq_true_eq]; exact shown_int120 h
def FineAll (n : Nat) (ds : List PyData) : Prop := PyData.showableAll ds = true ∧ PyData.leavesShortAll 121 ds = true ∧ PyData.weightAll ds ≤ n
theorem FineAll.nil : FineAll 0 [] := ⟨rfl, rfl, Nat.le_refl _⟩
theorem FineAll.cons {n m : Nat} {d : PyData} {ds : List PyData} (h : Fine n d) (g : FineAll m ds) : FineAll (n + 1 + m) (d :: ds) := by
  refine ⟨?_, ?_, ?_⟩
  · simp only [PyData.showableAll, h.1, g.1, Bool.and_self]
  · simp only [PyData.leavesShortAll, h.2.1, g.2.1, Bool.and_self]
  · have := h.2.2
    have := g.2.2
    simp only [PyData.weightAll]
    omega
theorem FineAll.tup {n : Nat} {ds : List PyData} (h : FineAll n ds) : Fine n (.tuple ds) :=
  ⟨by simp only [PyData.showable, h.1], by simp only [PyData.leavesShort, h.2.1], by simp only [PyData.weight]; exact h.2.2⟩
theorem Fine.mono {n m : Nat} {d : PyData} (l : n ≤ m) (h : Fine n d) : Fine m d := ⟨h.1, h.2.1, Nat.le_trans h.2.2 l⟩
theorem Fine.size {n : Nat} {d : PyData} (h : Fine n d) (l : n ≤ 10000) : d.shown.length ≤ sizeLine := by
  have z := PyData.shown_le 121 (by decide) d h.2.1
  have h2 : (121 + 2) * d.weight ≤ 123 * 10000 := Nat.mul_le_mul (by omega) (Nat.le_trans h.2.2 l)
  rw [sizeLine_eq]
  omega

theorem FineAll.mono {n m : Nat} {ds : List PyData} (l : n ≤ m) (h : FineAll n ds) : FineAll m ds := ⟨h.1, h.2.1, Nat.le_trans h.2.2 l⟩
theorem FineAll.lst {n : Nat} {ds : List PyData} (h : FineAll n ds) : Fine n (.list ds) := ⟨by simp only [PyData.showable, h.1], by simp only [PyData.leavesShort, h.2.1], by simp only [PyData.weight]; exact h.2.2⟩
theorem tNil_to {σ : L2.St} {H : Hp} {Q : List V → Hp → Prop} (h : Q [] H) : tNil σ H Q := h
/-- of what classes an instance of the class at C is -/
structure WKd (T : Txt K mg) (C : Addr) (e x l g : Bool) : Prop where
  ty : ∀ (H : Hp) (a dx : Addr) (fs : List (Str × V)), H a = some (.ins C dx fs) → TyX K H (.ref a) (.ref C)
  w : PySem.W.kitOne K (.ref C) (.ref T.a_Wheel) = some true
  e : PySem.W.kitOne K (.ref C) (.ref T.a_Even) = some e
  x : PySem.W.kitOne K (.ref C) (.ref T.a_Exact) = some x
  l : PySem.W.kitOne K (.ref C) (.ref T.a_Lagging) = some l
  g : PySem.W.kitOne K (.ref C) (.ref T.a_Grid) = some g
def spToldRight (T : Txt K mg) : Sp := fun vs H Q _ => ∃ (x C : Addr) (p b a : Int) (tr e ex l g : Bool), vs = [.ref x, .int p, .int b, .int a, .bl tr] ∧ WPr T C tr ∧ WKd T C e ex l g ∧ WhAt H C x p b a ∧ (0 ≤ p ∧ p ≤ 1000000000000 ∧ 0 ≤ b ∧ b ≤ 1000000000000 ∧ 0 ≤ a ∧ a ≤ 1000000000000) ∧ ∀ H', Same H H' → Q (.bl true) H'
theorem ok_told_right (T : Txt K mg) : FnG P w K mg base CX0 5 T.a_told_right (spToldRight T) := by
  refine FnG.mk0 T.F_told_right sc_told_right (b_told_right T) (fun vs H Q E h => ?_) (fun cdv A outer s H vs Q E gu hr h => ?_)
  · obtain ⟨x, C, p, b, a, tr, e, ex, l, g, rfl, _⟩ := h; rfl
  · obtain ⟨x, C, p, b, a, tr, e, ex, l, g, rfl, cW, kW, ⟨dx, hx⟩, hb, k⟩ := h
    refine ⟨_, pss_cons (ps_set (i := 5) sc_told_right.nd rfl (Or.inl rfl) (pe_lst (pa_cons (pe_fld (pv 0) rfl) (pa_cons (pe_fld (pv 0) rfl) (pa_cons (pe_fld (pv 0) rfl) (pa_cons (pe_propW (pv 0) T.p_play (ok_Wheel_play T) (hr.mono (by decide)) (b_Wheel_play T) .nil pass0 rfl) (pa_cons (pe_propW (pv 0) T.p_trusted (ok_Wheel_trusted T) (hr.mono (by decide)) (b_Wheel_trusted T) .nil pass0 rfl) (pa_cons (pe_propW (pv 0) T.p_never_parts (ok_Wheel_never_parts T) (hr.mono (by decide)) (b_Wheel_never_parts T) .nil pass0 rfl) (pa_cons (pe_con (pv 0) rfl) (pa_nil))))))))))
      (pss_cons (ps_set (i := 6) sc_told_right.nd rfl (Or.inl rfl) (pe_lst (pa_cons (pv 1) (pa_cons (pv 2) (pa_cons (pv 3) (pa_cons (pe_op op_add (pv 2) (pv 3)) (pa_cons (pv 4) (pa_cons (pe_cmpR op_ge (pe_op op_add (pe_op op_mul (pe_int) (pe_op op_add (pv 2) (pv 3))) (pe_int)) (pv 1) (nomark _)) (pa_cons (pv 4) (pa_nil))))))))))
      (pss_one (ps_ret (pe_and (pe_cmpR op_eq (pe_callB (call_rep gu hr.units) (by rfl) T.n_repr (by decide +kernel) (pa_cons (pv 5) (pa_nil))) (pe_callB (call_rep gu hr.units) (by rfl) T.n_repr (by decide +kernel) (pa_cons (pv 6) (pa_nil))) (nomark _)) (pe_one (pe_callB call_isi (by rfl) T.n_isinstance (by decide +kernel) (pa_cons (pv 0) (pa_cons (pe_glob (v := .ref T.a_Wheel) rfl T.m_Wheel rfl) (pa_nil))))))))), ?_⟩
    refine ⟨_, rfl, x, C, dx, _, _, rfl, hx, cW.w.cls, cW.w.na _ (by simp), rfl, ?_⟩
    refine ⟨_, rfl, x, C, dx, _, _, rfl, hx, cW.w.cls, cW.w.na _ (by simp), rfl, ?_⟩
    refine ⟨_, rfl, x, C, dx, _, _, rfl, hx, cW.w.cls, cW.w.na _ (by simp), rfl, ?_⟩
    refine ⟨_, rfl, x, C, dx, _, rfl, hx, cW.w.cls, cW.play, x, C, p, b, a, tr, rfl, cW, ⟨dx, hx⟩, ?_⟩
    refine ⟨_, rfl, x, C, dx, _, rfl, hx, cW.w.cls, cW.trusted, x, C, p, b, a, tr, rfl, cW, ⟨dx, hx⟩, ?_⟩
    refine ⟨_, rfl, x, C, dx, _, rfl, hx, cW.w.cls, cW.never, x, C, p, b, a, tr, rfl, cW, ⟨dx, hx⟩, ⟨by omega, by omega, by omega, by omega⟩, ?_⟩
    obtain ⟨u, hu⟩ := cW.con
    refine ⟨_, rfl, x, C, dx, _, _, u, rfl, hx, cW.w.cls, hu, rfl, ?_⟩
    refine tNil_to ?_
    refine ⟨(by show 7 ≤ sizeLine; decide), fun L hL => ?_⟩
    have sL := same_new (o := .lst [V.int p, V.int b, V.int a, V.int (b + a), V.bl tr, V.bl (decide (p ≤ 2 * (b + a) + 1)), V.bl tr]) hL
    have hLL : (upd H L (.lst [V.int p, V.int b, V.int a, V.int (b + a), V.bl tr, V.bl (decide (p ≤ 2 * (b + a) + 1)), V.bl tr])) L = some (.lst [V.int p, V.int b, V.int a, V.int (b + a), V.bl tr, V.bl (decide (p ≤ 2 * (b + a) + 1)), V.bl tr]) := upd_same
    refine ⟨_, rfl, _, rfl, _, rfl, _, rfl, _, rfl, _, _, rfl, rfl, _, rfl, _, rfl, _, rfl, _, _, rfl, rfl, _, _, rfl, rfl, .inl (by decide), _, _, rfl, rfl, _, rfl, _, _, rfl, rfl, _, rfl, ?_⟩
    refine tNil_to ?_
    refine ⟨(by show 7 ≤ sizeLine; decide), fun D hD => ?_⟩
    have sD := same_new (o := .lst [V.int p, V.int b, V.int a, V.int (b + a), V.bl tr, V.bl (decide (p ≤ 2 * (b + a) + 1)), V.bl tr]) hD
    have hL2 := sD _ _ hLL
    have hD2 : (upd (upd H L (.lst [V.int p, V.int b, V.int a, V.int (b + a), V.bl tr, V.bl (decide (p ≤ 2 * (b + a) + 1)), V.bl tr])) D (.lst [V.int p, V.int b, V.int a, V.int (b + a), V.bl tr, V.bl (decide (p ≤ 2 * (b + a) + 1)), V.bl tr])) D = some (.lst [V.int p, V.int b, V.int a, V.int (b + a), V.bl tr, V.bl (decide (p ≤ 2 * (b + a) + 1)), V.bl tr]) := upd_same
    have sH := sL.trans sD
    refine Exists.intro _ ⟨rfl, ?_⟩
    refine tNil_to ?_
    change rRep _ [V.ref L] (upd (upd H L (.lst [V.int p, V.int b, V.int a, V.int (b + a), V.bl tr, V.bl (decide (p ≤ 2 * (b + a) + 1)), V.bl tr])) D (.lst [V.int p, V.int b, V.int a, V.int (b + a), V.bl tr, V.bl (decide (p ≤ 2 * (b + a) + 1)), V.bl tr])) _
    generalize upd (upd H L (.lst [V.int p, V.int b, V.int a, V.int (b + a), V.bl tr, V.bl (decide (p ≤ 2 * (b + a) + 1)), V.bl tr])) D (.lst [V.int p, V.int b, V.int a, V.int (b + a), V.bl tr, V.bl (decide (p ≤ 2 * (b + a) + 1)), V.bl tr]) = G at hL2 hD2 sH ⊢
    have fD : Fine 2810 (PyData.list [.int p, .int b, .int a, .int (b + a), .bool tr, .bool (decide (p ≤ 2 * (b + a) + 1)), .bool tr]) := by
      have fb : ∀ c : Bool, Fine 400 (.bool c) := fun c => ⟨by simp only [PyData.showable], by cases c <;> decide +kernel, by simp only [PyData.weight]; omega⟩
      exact Fine.mono (n := 400 + 1 + (400 + 1 + (400 + 1 + (400 + 1 + (400 + 1 + (400 + 1 + (400 + 1 + 0))))))) (by decide) (FineAll.lst (.cons (Fine.int (by omega)) (.cons (Fine.int (by omega)) (.cons (Fine.int (by omega)) (.cons (Fine.int (by omega)) (.cons (fb _) (.cons (fb _) (.cons (fb _) .nil))))))))
    have dA : ∀ Z : Addr, G Z = some (.lst [V.int p, V.int b, V.int a, V.int (b + a), V.bl tr, V.bl (decide (p ≤ 2 * (b + a) + 1)), V.bl tr]) → Dq K G (.ref Z) (PyData.list [.int p, .int b, .int a, .int (b + a), .bool tr, .bool (decide (p ≤ 2 * (b + a) + 1)), .bool tr]) := fun Z hZ => .dp (.lst (SqL.of hZ) (.cons (.int _) (.cons (.int _) (.cons (.int _) (.cons (.int _) (.cons (.bl _) (.cons (.bl _) (.cons (.bl _) .nil))))))))
    have dep : (PyData.list [.int p, .int b, .int a, .int (b + a), .bool tr, .bool (decide (p ≤ 2 * (b + a) + 1)), .bool tr]).depth ≤ 60 := by simp [PyData.depth, PyData.depthAll]
    refine ⟨_, _, rfl, dA L hL2, fD.1, dep, .inr (fD.size (by omega)), ?_⟩
    refine ⟨_, rfl, _, _, rfl, dA D hD2, fD.1, dep, .inr (fD.size (by omega)), ?_⟩
    refine ⟨by rfl, true, by rw [decide_eq_true rfl], iteT ?_⟩
    exact ⟨_, rfl, .ref x, .ref T.a_Wheel, .ref C, .ref T.a_Wheel, true, rfl, (by constructor), kW.ty _ x dx _ (sH _ _ hx), kW.w, k _ sH⟩
def spClasses (T : Txt K mg) : Sp := fun vs H Q _ => ∃ (x C dx : Addr) (fs : List (Str × V)) (e ex l g : Bool), vs = [.ref x] ∧ WKd T C e ex l g ∧ H x = some (.ins C dx fs) ∧ ∀ (L : Addr), H L = Option.none → Q (.ref L) (upd H L (.lst [V.bl e, V.bl ex, V.bl l, V.bl g]))
theorem ok_classes (T : Txt K mg) : FnOk P w K mg base CX0 1 T.a_classes T.fd_classes ["_law_made"] (spClasses T) := by
  refine T.F_classes.ok sc_classes (fun vs H Q E h => ?_) (fun cdv A outer s H vs Q E hr h => ?_)
  · obtain ⟨x, C, dx, fs, e, ex, l, g, rfl, _⟩ := h; rfl
  · obtain ⟨x, C, dx, fs, e, ex, l, g, rfl, kW, hx, k⟩ := h
    refine ⟨_, pss_one (ps_ret (pe_lst (pa_cons (pe_callB call_isi (by rfl) T.n_isinstance (by decide +kernel) (pa_cons (pv 0) (pa_cons (pe_glob (v := .ref T.a_Even) rfl T.m_Even rfl) (pa_nil)))) (pa_cons (pe_callB call_isi (by rfl) T.n_isinstance (by decide +kernel) (pa_cons (pv 0) (pa_cons (pe_glob (v := .ref T.a_Exact) rfl T.m_Exact rfl) (pa_nil)))) (pa_cons (pe_callB call_isi (by rfl) T.n_isinstance (by decide +kernel) (pa_cons (pv 0) (pa_cons (pe_glob (v := .ref T.a_Lagging) rfl T.m_Lagging rfl) (pa_nil)))) (pa_cons (pe_callB call_isi (by rfl) T.n_isinstance (by decide +kernel) (pa_cons (pv 0) (pa_cons (pe_glob (v := .ref T.a_Grid) rfl T.m_Grid rfl) (pa_nil)))) (pa_nil))))))), ?_⟩
    refine ⟨_, rfl, .ref x, .ref T.a_Even, .ref C, .ref T.a_Even, e, rfl, (by constructor), kW.ty _ x dx _ hx, kW.e, ?_⟩
    refine ⟨_, rfl, .ref x, .ref T.a_Exact, .ref C, .ref T.a_Exact, ex, rfl, (by constructor), kW.ty _ x dx _ hx, kW.x, ?_⟩
    refine ⟨_, rfl, .ref x, .ref T.a_Lagging, .ref C, .ref T.a_Lagging, l, rfl, (by constructor), kW.ty _ x dx _ hx, kW.l, ?_⟩
    refine ⟨_, rfl, .ref x, .ref T.a_Grid, .ref C, .ref T.a_Grid, g, rfl, (by constructor), kW.ty _ x dx _ hx, kW.g, ?_⟩
    exact ⟨(by show 4 ≤ sizeLine; decide), fun L hL => k L hL⟩

/-! ### str of an instance with an own __str__; == with what is no instance -/
section
variable {prog : Program} {w : World} {A : Around} {E : Value → Shared → Prop} {s : Shared} {a : Addr}
theorem str_own {R : Value → Shared → Prop} (h : ∀ A', A' = A.in1.in1 → wpAny (model prog w) A' (Builtin.Str.strOf (.ref a)) (fun b s' => (∃ x t, b = .str x t) ∧ R b s') E s) : wpAny (model prog w) A (call (.type "str") [.ref a]) R E s := by
  refine callType_codes (Q₁ := fun obj s₁ => s₁.TypeIs obj "str" ∧ R obj s₁) PySem.F.called_str (PySem.F.typeCall_str_1 _) PySem.F.entry_object_init ?_ fun obj s₁ h₁ => ?_
  · refine codeAny_of_tree ?_
    show wpAny _ A.in1.in1 (do checkBuiltinCall "str.__new__" ⟨[.type "str", .ref a], []⟩; again (.builtin "str.__new__" ⟨[.type "str", .ref a], []⟩)) _ _ s
    refine wpAny_bind (wpAny_of_eq (PySem.F.newCall_str_1 _) (wpAny_pure ⟨plainId_quiet (by decide +kernel) _, codeAny_builtin PySem.F.entry_str_new ?_⟩))
    rw [Around.under_plainId (by decide +kernel) _, str_new_tree]
    refine wpAny_bind (wpAny_pure ?_)
    refine wpAny_bind (wpAny_of_eq isSubtype_str_str ?_)
    refine wpAny_bind (wpAny_mono (h _ rfl) (fun b s' z => wpAny_pure ?_) fun _ _ e => e)
    obtain ⟨⟨x, t, rfl⟩, z⟩ := z
    exact ⟨typeIs_str _ _ _, z⟩
  · exact ⟨h₁.1, PySem.F.args_object_init_2 obj _, object_init_meets PySem.F.called_str.init.lookup PySem.F.called_str.made (by decide) prog w A.in1 _ s₁ ⟨h₁.1, rfl, h₁.2⟩⟩
theorem strOf_own {K : PySem.W.Frag} {x C f : Addr} {ox : Obj} {od : Option Obj} {Q : Value → Shared → Prop} (hu : A.units < cLine) (X : K.In s.heap) (I : PySem.W.InstAt s.heap x ox C od) (hs : PySem.W.findIn K (.ref C) "__str__" = some (some (.ref f))) (hf : PySem.W.isFn K (.ref f) = true)
    (h : wpAny (model prog w) A (call (.ref f) [.ref x]) (fun r s' => (∃ y t, r = .str y t) ∧ Q r s') E s) : wpAny (model prog w) A (Builtin.Str.strOf (.ref x)) Q E s := by
  unfold Builtin.Str.strOf
  repeat (first
    | with_reducible refine wpAny_cRoomFor hu ?_
    | (refine wpAny_bind (m := callSpecial? (.ref x) (Str.ofString "__str__")) (PySem.W.special_fn X I hs (beq_iff_eq.mp hf) (wpAny_mono h (fun r s' hr => by
        obtain ⟨⟨y, t, rfl⟩, hq⟩ := hr
        repeat (first | exact hq | exact wpAny_pure hq | wp_step)) fun _ _ e => e)))
    | wp_step)
end
section
variable {X : Cx} {CX : CXT} {k : Nat} {C f : Addr} {fd : FuncData} {ps : List Str} {sp : Sp} {E : XK}
def rStrO (C : Addr) (sp : Sp) (E : XK) : List V → Hp → VK → Prop := fun xs H Q => ∃ (a dx : Addr) (fs : List (Str × V)), xs = [.ref a] ∧ H a = some (.ins C dx fs) ∧ sp [.ref a] H (fun v H' => ∃ x, v = .str x ∧ Q (.str x) H') E
theorem call_strO (F : FnOk X.prog X.w X.K X.mg X.base CX k f fd ps sp) (hr : Room (k + 3) X.A) (hb : Binds X.K fd ps []) (hx : Passes CX X E) (hs : PySem.W.findIn X.K (.ref C) "__str__" = some (some (.ref f))) (hf : PySem.W.isFn X.K (.ref f) = true) : CallR X (.type "str") (rStrO C sp E) := by
  intro pins s σ H xs us Q I r h
  obtain ⟨a, dx, fs, rfl, ha, q⟩ := h
  obtain ⟨u, rfl, ru⟩ := vals1 r
  obtain rfl : u = Value.ref a := ru
  obtain ⟨o, od, J⟩ := ins_at I ha
  obtain ⟨m, hF⟩ := I.fr
  refine str_own fun A' e => ?_
  subst e
  refine strOf_own hr.in1.in1.units0 (I.ok.mod.kin.keeps hF.keep) J hs hf (thn (run_fnA (us := [.ref a]) (vs := [.ref a]) F (hr.in1.in1.mono (by omega)) (fun e => e.in1.in1) hb hx I (.cons rfl .nil) q) fun r s1 z => ?_)
  obtain ⟨w', H1, I1, rw1, x, rfl, q1⟩ := z
  obtain ⟨t, rfl⟩ := rw1
  exact ⟨⟨x, t, rfl⟩, ⟨x, t, rfl⟩, .str x, H1, I1, ⟨t, rfl⟩, q1⟩
/-- a == y, a an instance of the class, whose __eq__ is its own, y of a built-in kind -/
def rEqX (K : PySem.W.Frag) (C : Addr) (sp : Sp) (E : XK) : R2 := fun x y H Q => ∃ (a dx : Addr) (fs : List (Str × V)) (t : Value), x = .ref a ∧ H a = some (.ins C dx fs) ∧ TyX K H y t ∧ PySem.W.notFirst K C t = true ∧ sp [.ref a, y] H (fun v H' => ∃ b, v = .bl b ∧ Q (.bl b) H') E
theorem op_eqX (K : PySem.W.Frag) (hK : X.K = K) (F : FnOk X.prog X.w X.K X.mg X.base CX k f fd ps sp) (hr : Room k X.A) (hb : Binds X.K fd ps []) (hx : Passes CX X E) (hs : PySem.W.findIn X.K (.ref C) "__eq__" = some (some (.ref f))) (hf : PySem.W.isFn X.K (.ref f) = true) : OpR X (compareOp .Eq) (rEqX K C sp E) := by
  subst hK
  intro pins s σ H x y v u Q I rx ry h
  obtain ⟨a, dx, fs, t, rfl, ha, ty, nf, q⟩ := h
  obtain rfl : v = Value.ref a := rx
  obtain ⟨o, od, J⟩ := ins_at I ha
  obtain ⟨P, Z, hP, _⟩ := kit_of I ry ty
  obtain ⟨m, hF⟩ := I.fr
  show wpAny (model X.prog X.w) X.A (richCompare .Eq (.ref a) u) (EP X pins σ Q) X.xe s
  refine PySem.W.cmp_K (op := .Eq) (tb := t) hr.units0 hF I.ok.mod.kin J (Z.ty _ _ I.kIn hP) nf hs hf (thn (run_fn (us := [.ref a, u]) (vs := [.ref a, y]) F hr hb .nil hx I (.cons rfl (.cons ry .nil)) q) fun r s1 z => ?_)
  obtain ⟨w, H1, I1, rw1, c, rfl, q1⟩ := z
  cases rw1
  exact ⟨.bl c, H1, I1, rfl, q1⟩
end
/-- f'..' of two parts or more, under a name -/
def tJoin (ts : List TE) : TE := fun σ H Q => tJs ts Str.empty σ H fun out H1 => Q (.str out) H1
theorem pe_joinedT {X : Cx} {v1 v2 : Expr} {rest : List Expr} {ts : List TE} {pos : Pos} (h : PJ X (v1 :: v2 :: rest) ts) : PE X (.JoinedStr (v1 :: v2 :: rest) pos) (tJoin ts) := pe_joined h

/-- == of a wheel: with a wheel of any class, or with something else -/
def spWheelEq (T : Txt K mg) : Sp := fun vs H Q _ => ∃ (x C : Addr) (p b a : Int) (tr : Bool), WPr T C tr ∧ WhAt H C x p b a ∧
  ((∃ (y C' : Addr) (p' b' a' : Int) (tr' e ex l g : Bool), vs = [.ref x, .ref y] ∧ WPr T C' tr' ∧ WKd T C' e ex l g ∧ WhAt H C' y p' b' a' ∧ Q (.bl (decide (tr = tr' ∧ p = p' ∧ b = b' ∧ a = a'))) H) ∨
   ∃ (v : V) (t : Value), vs = [.ref x, v] ∧ TyX K H v t ∧ PySem.W.kitOne K t (.ref T.a_Wheel) = some false ∧ Q (.bl false) H)
theorem ok_Wheel_eq (T : Txt K mg) : FnOk P w K mg base CX0 1 T.a_Wheel_eq T.fd_Wheel_eq ["self", "other"] (spWheelEq T) := by
  refine T.F_Wheel_eq.ok sc_Wheel_eq (fun vs H Q E h => ?_) (fun cdv A outer s H vs Q E hr h => ?_)
  · obtain ⟨x, C, p, b, a, tr, _, _, ⟨y, C', p', b', a', tr', e, ex, l, g, rfl, _⟩ | ⟨v, t, rfl, _⟩⟩ := h <;> rfl
  · obtain ⟨x, C, p, b, a, tr, cW, ⟨dx, hx⟩, ⟨y, C', p', b', a', tr', e, ex, l, g, rfl, cW', kW, ⟨dy, hy⟩, k⟩ | ⟨v, t, rfl, ht, hk, k⟩⟩ := h
    · refine ⟨_, pss_cons (ps_if (PW.pt (pw_or (pt_not (pt_val (pe_callB call_isi (by rfl) T.n_isinstance (by decide +kernel) (pa_cons (pv 1) (pa_cons (pe_glob (v := .ref T.a_Wheel) rfl T.m_Wheel rfl) (pa_nil)))))) (pw_or1 (pt_cmpR op_ne (pe_con (pv 0) rfl) (pe_con (pv 1) rfl) (nomark _))))) (pss_one (ps_ret (pe_bl))) (pss_nil))
      (pss_one (ps_ret (pe_and (pe_cmpR op_eq (pe_fld (pv 0) rfl) (pe_fld (pv 1) rfl) (nomark _)) (pe_and (pe_cmpR op_eq (pe_fld (pv 0) rfl) (pe_fld (pv 1) rfl) (nomark _)) (pe_one (pe_cmpR op_eq (pe_fld (pv 0) rfl) (pe_fld (pv 1) rfl) (nomark _))))))), ?_⟩
      obtain ⟨u, hu⟩ := cW.con
      obtain ⟨u', hu'⟩ := cW'.con
      refine ⟨_, rfl, .ref y, .ref T.a_Wheel, .ref C', .ref T.a_Wheel, true, rfl, (by constructor), kW.ty _ y dy _ hy, kW.w, true, rfl, ?_⟩
      refine iteF ⟨_, rfl, x, C, dx, _, _, u, rfl, hx, cW.w.cls, hu, rfl, _, rfl, y, C', dy, _, _, u', rfl, hy, cW'.w.cls, hu', rfl, rfl, _, rfl, ?_⟩
      by_cases ht : tr = tr'
      · subst ht
        refine if_false_of (by rw [decide_eq_true rfl]; rfl) ?_
        refine ⟨_, rfl, x, C, dx, _, _, rfl, hx, cW.w.cls, cW.w.na _ (by simp), rfl, _, rfl, y, C', dy, _, _, rfl, hy, cW'.w.cls, cW'.w.na _ (by simp), rfl, rfl, _, rfl, ?_⟩
        by_cases h1 : p = p'
        · subst h1
          refine if_true_of (decide_eq_true rfl) ?_
          refine ⟨_, rfl, x, C, dx, _, _, rfl, hx, cW.w.cls, cW.w.na _ (by simp), rfl, _, rfl, y, C', dy, _, _, rfl, hy, cW'.w.cls, cW'.w.na _ (by simp), rfl, rfl, _, rfl, ?_⟩
          by_cases h2 : b = b'
          · subst h2
            refine if_true_of (decide_eq_true rfl) ?_
            refine ⟨_, rfl, x, C, dx, _, _, rfl, hx, cW.w.cls, cW.w.na _ (by simp), rfl, _, rfl, y, C', dy, _, _, rfl, hy, cW'.w.cls, cW'.w.na _ (by simp), rfl, rfl, ?_⟩
            refine Eq.mpr (congrArg (fun c => Q (V.bl c) H) ?_) k
            rw [decide_eq_decide]
            exact ⟨fun z => ⟨rfl, rfl, rfl, by injection z⟩, fun z => by rw [z.2.2.2]⟩
          · refine if_false_of (decide_eq_false fun z => h2 (by injection z)) ?_
            rw [decide_eq_false fun z => h2 z.2.2.1] at k; exact k
        · refine if_false_of (decide_eq_false fun z => h1 (by injection z)) ?_
          rw [decide_eq_false fun z => h1 z.2.1] at k; exact k
      · refine if_true_of (by rw [decide_eq_false (fun z => ht (by injection z))]; rfl) ?_
        rw [decide_eq_false fun z => ht z.1] at k; exact k
    · refine ⟨_, pss_cons (ps_if (PW.pt (pw_or (pt_not (pt_val (pe_callB call_isi (by rfl) T.n_isinstance (by decide +kernel) (pa_cons (pv 1) (pa_cons (pe_glob (v := .ref T.a_Wheel) rfl T.m_Wheel rfl) (pa_nil)))))) (pw_or1 (pt_cmpR op_ne (pe_con (pv 0) rfl) (pe_con (pv 1) rfl) (nomark _))))) (pss_one (ps_ret (pe_bl))) (pss_nil))
      (pss_one (ps_ret (pe_and (pe_cmpR op_eq (pe_fld (pv 0) rfl) (pe_fld (pv 1) rfl) (nomark _)) (pe_and (pe_cmpR op_eq (pe_fld (pv 0) rfl) (pe_fld (pv 1) rfl) (nomark _)) (pe_one (pe_cmpR op_eq (pe_fld (pv 0) rfl) (pe_fld (pv 1) rfl) (nomark _))))))), ?_⟩
      refine ⟨_, rfl, v, .ref T.a_Wheel, t, .ref T.a_Wheel, false, rfl, (by constructor), ht, hk, false, rfl, ?_⟩
      exact iteT (iteT k)
theorem slen (a b : Str) : (a ++ b).length = a.length + b.length := by
  show (a.cps ++ b.cps).size = _
  rw [Array.size_append]
  rfl
/-- the text of a wheel, whichever it is -/
def spWheelStr (T : Txt K mg) : Sp := fun vs H Q _ => ∃ (x C : Addr) (p b a : Int) (tr : Bool), vs = [.ref x] ∧ WPr T C tr ∧ WhAt H C x p b a ∧ (p.natAbs < 10 ^ 18 ∧ b.natAbs < 10 ^ 18 ∧ a.natAbs < 10 ^ 18) ∧ ∀ t : Str, Q (.str t) H
theorem ok_Wheel_str (T : Txt K mg) : FnOk P w K mg base CX0 1 T.a_Wheel_str T.fd_Wheel_str ["self"] (spWheelStr T) := by
  refine T.F_Wheel_str.ok sc_Wheel_str (fun vs H Q E h => ?_) (fun cdv A outer s H vs Q E hr h => ?_)
  · obtain ⟨x, C, p, b, a, tr, rfl, _⟩ := h; rfl
  · obtain ⟨x, C, p, b, a, tr, rfl, cW, ⟨dx, hx⟩, hb, k⟩ := h
    obtain ⟨u, hu⟩ := cW.con
    refine ⟨_, pss_cons (ps_if (pt_val (pe_con (pv 0) rfl)) (pss_one (ps_ret (pe_joinedT (PJ.cons (pe_str) (PJ.cons (pe_fmt (pe_fld (pv 0) rfl)) (PJ.nil)))))) (pss_nil))
      (pss_one (ps_ret (pe_joinedT (PJ.cons (pe_str) (PJ.cons (pe_fmt (pe_fld (pv 0) rfl)) (PJ.cons (pe_str) (PJ.cons (pe_fmt (pe_fld (pv 0) rfl)) (PJ.cons (pe_str) (PJ.cons (pe_fmt (pe_fld (pv 0) rfl)) (PJ.nil)))))))))), ?_⟩
    have L : ∀ i : Int, i.natAbs < 10 ^ 18 → i.natAbs.log2 < 1920 ∧ (Str.ofString (toString i)).length ≤ 121 := fun i h => by
      have h2 : i.natAbs < 10 ^ 120 := Nat.lt_trans h (by decide +kernel)
      exact ⟨Nat.lt_trans (log_int120 h2) (by decide), shown_int120 h2⟩
    obtain ⟨p1, p2⟩ := L p hb.1
    obtain ⟨b1, b2⟩ := L b hb.2.1
    obtain ⟨a1, a2⟩ := L a hb.2.2
    refine ⟨_, rfl, x, C, dx, _, _, u, rfl, hx, cW.w.cls, hu, rfl, tr, rfl, ?_⟩
    cases tr with
    | true =>
      refine ⟨_, rfl, (by decide), _, rfl, x, C, dx, _, _, rfl, hx, cW.w.cls, cW.w.na _ (by simp), rfl, .inr ⟨p, rfl, p1, _, rfl, ?_, k _⟩⟩
      rw [slen]
      exact Nat.le_trans (Nat.add_le_add (show _ ≤ 10 by decide) p2) (by decide)
    | false =>
      refine ⟨_, rfl, (by decide), _, rfl, x, C, dx, _, _, rfl, hx, cW.w.cls, cW.w.na _ (by simp), rfl, .inr ⟨p, rfl, p1, _, rfl, ?_, _, rfl, ?_, _, rfl, x, C, dx, _, _, rfl, hx, cW.w.cls, cW.w.na _ (by simp), rfl, .inr ⟨b, rfl, b1, _, rfl, ?_, _, rfl, ?_, _, rfl, x, C, dx, _, _, rfl, hx, cW.w.cls, cW.w.na _ (by simp), rfl, .inr ⟨a, rfl, a1, _, rfl, ?_, k _⟩⟩⟩⟩
      all_goals
        simp only [slen]
        have z1 : ("wheel " : Str).length = 6 := by decide
        have z2 : (" " : Str).length = 1 := by decide
        have z0 : (Str.empty : Str).length = 0 := by decide
        rw [sizeLine_eq]
        omega

/-! ### x == y where y's class is below x's: y is asked first -/
theorem cmp_R {prog : Program} {w : World} {A : Around} {E : Value → Shared → Prop} {s : Shared} {K : PySem.W.Frag} {x y C C' f : Addr} {ox oy : Obj} {od od' : Option Obj} {op : CmpOp} {Q : Value → Shared → Prop} (hu : A.units < cLine) (X : K.In s.heap) (I : PySem.W.InstAt s.heap x ox C od) (J : PySem.W.InstAt s.heap y oy C' od')
    (hn : PySem.W.subIn K (.ref C') (.ref C) = some true) (ne : (Value.ref C != Value.ref C') = true)
    (hs : PySem.W.findIn K (.ref C') (cmpInfo op).2.2 = some (some (.ref f))) (hf : PySem.W.isFn K (.ref f) = true)
    (h : wpAny (model prog w) A (call (.ref f) [.ref y, .ref x]) (PySem.W.CmpBack Q) E s) : wpAny (model prog w) A (richCompare op (.ref x) (.ref y)) Q E s := by
  have one : wpAny (model prog w) A (tryCompare (.ref y) (cmpInfo op).2.2 (.ref x)) (fun r s' => ∃ v, r = some v ∧ Q v s') E s := by
    unfold tryCompare
    refine wpAny_bind (PySem.W.ifBound_K X J hs hf (wpAny_mono h (fun v s' hv => ?_) fun _ _ e => e))
    cases v <;> first | exact hv.elim | exact wpAny_pure ⟨_, rfl, hv⟩
  unfold richCompare
  simp only [oneThing_ref]
  refine wpAny_holding (wpAny_bind (wpAny_cRoomFor hu ?_))
  refine wpAny_bind (I.type.here (wpAny_bind (J.type.here ?_)))
  rw [if_pos ne]
  refine wpAny_bind ((PySem.W.looks_subIn X hn).here ?_)
  simp only [if_true]
  refine wpAny_bind (wpAny_mono one (fun r s' z => ?_) fun _ _ e => e)
  obtain ⟨v, rfl, hq⟩ := z
  exact wpAny_bind (wpAny_rule (wpAny_pure hq))
/-- x == y, x an instance of a class whose __eq__ is the def at g; y of a kind that is not asked first, or of a class below x's -/
def rEqW (K : PySem.W.Frag) (g : Addr) (sp : Sp) (E : XK) : R2 := fun x y H Q => ∃ (a C dx : Addr) (fs : List (Str × V)), x = .ref a ∧ H a = some (.ins C dx fs) ∧
  ((∃ t : Value, PySem.W.findIn K (.ref C) "__eq__" = some (some (.ref g)) ∧ TyX K H y t ∧ PySem.W.notFirst K C t = true ∧ sp [.ref a, y] H (fun v H' => ∃ b, v = .bl b ∧ Q (.bl b) H') E) ∨
   ∃ (b C' dy : Addr) (gs : List (Str × V)), y = .ref b ∧ H b = some (.ins C' dy gs) ∧ PySem.W.findIn K (.ref C') "__eq__" = some (some (.ref g)) ∧ PySem.W.subIn K (.ref C') (.ref C) = some true ∧ (Value.ref C != Value.ref C') = true ∧ sp [.ref b, .ref a] H (fun v H' => ∃ c, v = .bl c ∧ Q (.bl c) H') E)
theorem op_eqW {X : Cx} {CX : CXT} {k : Nat} {g : Addr} {fd : FuncData} {ps : List Str} {sp : Sp} {E : XK} (K : PySem.W.Frag) (hK : X.K = K) (F : FnOk X.prog X.w X.K X.mg X.base CX k g fd ps sp) (hr : Room k X.A) (hb : Binds X.K fd ps []) (hx : Passes CX X E) (hf : PySem.W.isFn X.K (.ref g) = true) : OpR X (compareOp .Eq) (rEqW K g sp E) := by
  subst hK
  intro pins s σ H x y v u Q I rx ry h
  obtain ⟨a, C, dx, fs, rfl, ha, h⟩ := h
  obtain rfl : v = Value.ref a := rx
  obtain ⟨o, od, J⟩ := ins_at I ha
  show wpAny (model X.prog X.w) X.A (richCompare .Eq (.ref a) u) (EP X pins σ Q) X.xe s
  rcases h with ⟨t, hs, ty, nf, q⟩ | ⟨b, C', dy, gs, rfl, hb2, hs, sb, ne, q⟩
  · obtain ⟨P, Z, hP, _⟩ := kit_of I ry ty
    obtain ⟨m, hF⟩ := I.fr
    refine PySem.W.cmp_K (op := .Eq) (tb := t) hr.units0 hF I.ok.mod.kin J (Z.ty _ _ I.kIn hP) nf hs hf (thn (run_fn (us := [.ref a, u]) (vs := [.ref a, y]) F hr hb .nil hx I (.cons rfl (.cons ry .nil)) q) fun r s1 z => ?_)
    obtain ⟨w, H1, I1, rw1, c, rfl, q1⟩ := z
    cases rw1
    exact ⟨.bl c, H1, I1, rfl, q1⟩
  · obtain rfl : u = Value.ref b := ry
    obtain ⟨o2, od2, J2⟩ := ins_at I hb2
    refine cmp_R (op := .Eq) hr.units0 I.kIn J J2 sb ne hs hf (thn (run_fn (us := [.ref b, .ref a]) (vs := [.ref b, .ref a]) F hr hb .nil hx I (.cons rfl (.cons rfl .nil)) q) fun r s1 z => ?_)
    obtain ⟨w, H1, I1, rw1, c, rfl, q1⟩ := z
    cases rw1
    exact ⟨.bl c, H1, I1, rfl, q1⟩

/-! ### makers by keywords -/
def gk312 (α : Type) : List α → List α → List α
  | [x], [c, a, b] => [x, a, b, c]
  | _, _ => []
theorem kb_312 {fd : FuncData} {p0 p1 p2 p3 k1 k2 k3 : Str} (h : ∀ (x a b c : Value) (s : Shared), BindsTo s fd ⟨[x], [(k1, c), (k2, a), (k3, b)]⟩ [(p0, x), (p1, a), (p2, b), (p3, c)]) : KBn K fd [p0, p1, p2, p3] 1 [k1, k2, k3] (gk312 Value) (gk312 V) := by
  refine ⟨fun s us ws _ hu hl => ?_, fun {vs us zs ws} r rz => ?_⟩
  · match us, ws, hu, hl with
    | [x], [c, a, b], _, _ => exact h x a b c s
    | [x], [], _, h => simp at h
    | [x], [_], _, h => simp at h
    | [x], [_, _], _, h => simp at h
    | [x], _ :: _ :: _ :: _ :: _, _, h => simp at h
  · match vs, us, zs, ws, r, rz with
    | _, _, _, _, .nil, _ => exact .nil
    | _, _, _, _, .cons _ .nil, .nil => exact .nil
    | _, _, _, _, .cons _ .nil, .cons _ .nil => exact .nil
    | _, _, _, _, .cons _ .nil, .cons _ (.cons _ .nil) => exact .nil
    | _, _, _, _, .cons r0 .nil, .cons r3 (.cons r1 (.cons r2 .nil)) => exact .cons r0 (.cons r1 (.cons r2 (.cons r3 .nil)))
    | _, _, _, _, .cons _ .nil, .cons _ (.cons _ (.cons _ (.cons _ _))) => exact .nil
    | _, _, _, _, .cons _ (.cons _ _), _ => exact .nil
def gk12 (α : Type) : List α → List α → List α
  | [x], [a, b] => [x, a, b]
  | _, _ => []
theorem kb_12 {fd : FuncData} {p0 p1 p2 k1 k2 : Str} (h : ∀ (x a b : Value) (s : Shared), BindsTo s fd ⟨[x], [(k1, a), (k2, b)]⟩ [(p0, x), (p1, a), (p2, b)]) : KBn K fd [p0, p1, p2] 1 [k1, k2] (gk12 Value) (gk12 V) := by
  refine ⟨fun s us ws _ hu hl => ?_, fun {vs us zs ws} r rz => ?_⟩
  · match us, ws, hu, hl with
    | [x], [a, b], _, _ => exact h x a b s
    | [x], [], _, h => simp at h
    | [x], [_], _, h => simp at h
    | [x], _ :: _ :: _ :: _, _, h => simp at h
  · match vs, us, zs, ws, r, rz with
    | _, _, _, _, .nil, _ => exact .nil
    | _, _, _, _, .cons _ .nil, .nil => exact .nil
    | _, _, _, _, .cons _ .nil, .cons _ .nil => exact .nil
    | _, _, _, _, .cons r0 .nil, .cons r1 (.cons r2 .nil) => exact .cons r0 (.cons r1 (.cons r2 .nil))
    | _, _, _, _, .cons _ .nil, .cons _ (.cons _ (.cons _ _)) => exact .nil
    | _, _, _, _, .cons _ (.cons _ _), _ => exact .nil
def gk21 (α : Type) : List α → List α → List α
  | [x], [b, a] => [x, a, b]
  | _, _ => []
theorem kb_21 {fd : FuncData} {p0 p1 p2 k1 k2 : Str} (h : ∀ (x a b : Value) (s : Shared), BindsTo s fd ⟨[x], [(k1, b), (k2, a)]⟩ [(p0, x), (p1, a), (p2, b)]) : KBn K fd [p0, p1, p2] 1 [k1, k2] (gk21 Value) (gk21 V) := by
  refine ⟨fun s us ws _ hu hl => ?_, fun {vs us zs ws} r rz => ?_⟩
  · match us, ws, hu, hl with
    | [x], [b, a], _, _ => exact h x a b s
    | [x], [], _, h => simp at h
    | [x], [_], _, h => simp at h
    | [x], _ :: _ :: _ :: _, _, h => simp at h
  · match vs, us, zs, ws, r, rz with
    | _, _, _, _, .nil, _ => exact .nil
    | _, _, _, _, .cons _ .nil, .nil => exact .nil
    | _, _, _, _, .cons _ .nil, .cons _ .nil => exact .nil
    | _, _, _, _, .cons r0 .nil, .cons r2 (.cons r1 .nil) => exact .cons r0 (.cons r1 (.cons r2 .nil))
    | _, _, _, _, .cons _ .nil, .cons _ (.cons _ (.cons _ _)) => exact .nil
    | _, _, _, _, .cons _ (.cons _ _), _ => exact .nil
def gk1 (α : Type) : List α → List α → List α
  | [x], [a] => [x, a]
  | _, _ => []
theorem kb_1 {fd : FuncData} {p0 p1 k1 : Str} (h : ∀ (x a : Value) (s : Shared), BindsTo s fd ⟨[x], [(k1, a)]⟩ [(p0, x), (p1, a)]) : KBn K fd [p0, p1] 1 [k1] (gk1 Value) (gk1 V) := by
  refine ⟨fun s us ws _ hu hl => ?_, fun {vs us zs ws} r rz => ?_⟩
  · match us, ws, hu, hl with
    | [x], [a], _, _ => exact h x a s
    | [x], [], _, h => simp at h
    | [x], _ :: _ :: _, _, h => simp at h
  · match vs, us, zs, ws, r, rz with
    | _, _, _, _, .nil, _ => exact .nil
    | _, _, _, _, .cons _ .nil, .nil => exact .nil
    | _, _, _, _, .cons r0 .nil, .cons r1 .nil => exact .cons r0 (.cons r1 .nil)
    | _, _, _, _, .cons _ .nil, .cons _ (.cons _ _) => exact .nil
    | _, _, _, _, .cons _ (.cons _ _), _ => exact .nil
theorem kb_Wheel (T : Txt K mg) : KBn K T.fd_Wheel_init ["self", "period", "back", "ahead"] 1 ["ahead", "period", "back"] (gk312 Value) (gk312 V) := by
  obtain ⟨oc, od, kV, doc, pm, an, cdv, ct, osl, e, lk, hcd⟩ := T.F_Wheel_init.ex
  refine kb_312 fun x a b c s => ?_
  rw [e]; exact .of_eq rfl
theorem kb_Even (T : Txt K mg) : KBn K T.fd_Even_init ["self", "period", "slip"] 1 ["period", "slip"] (gk12 Value) (gk12 V) := by
  obtain ⟨oc, od, kV, doc, pm, an, ct, osl, e, lk, hcd⟩ := T.F_Even_init.ex
  refine kb_12 fun x a b s => ?_
  rw [e]; exact .of_eq rfl
theorem kb_Lagging (T : Txt K mg) : KBn K T.fd_Lagging_init ["self", "period", "lag"] 1 ["lag", "period"] (gk21 Value) (gk21 V) := by
  obtain ⟨oc, od, kV, doc, pm, an, ct, osl, e, lk, hcd⟩ := T.F_Lagging_init.ex
  refine kb_21 fun x a b s => ?_
  rw [e]; exact .of_eq rfl
theorem kb_Exact (T : Txt K mg) : KBn K T.fd_Exact_init ["self", "period"] 1 ["period"] (gk1 Value) (gk1 V) := by
  obtain ⟨oc, od, kV, doc, pm, an, ct, osl, e, lk, hcd⟩ := T.F_Exact_init.ex
  refine kb_1 fun x a s => ?_
  rw [e]; exact .of_eq rfl
theorem kb_Grid (T : Txt K mg) : KBn K T.fd_Grid_init ["self", "period"] 1 ["period"] (gk1 Value) (gk1 V) := by
  obtain ⟨oc, od, kV, doc, pm, an, ct, osl, e, lk, hcd⟩ := T.F_Grid_init.ex
  refine kb_1 fun x a s => ?_
  rw [e]; exact .of_eq rfl

/-- what the text has of one class of wheels: its kinds, its maker, its == -/
structure WhC (T : Txt K mg) (C f : Addr) (tr e x l g : Bool) : Prop where
  w : WPr T C tr
  k : WKd T C e x l g
  mkr : Mk K C f
  eq : PySem.W.findIn K (.ref C) "__eq__" = some (some (.ref T.a_Wheel_eq))
/-- what it has of the five -/
structure Whl (T : Txt K mg) : Prop where
  W : WhC T T.a_Wheel T.a_Wheel_init false false false false false
  E : WhC T T.a_Even T.a_Even_init false true false false false
  X : WhC T T.a_Exact T.a_Exact_init false false true false false
  L : WhC T T.a_Lagging T.a_Lagging_init false false false true false
  G : WhC T T.a_Grid T.a_Grid_init true false false false true
  sE : SupAt K T.a_Even T.a_Even T.a_Wheel_init "__init__"
  sX : SupAt K T.a_Exact T.a_Exact T.a_Wheel_init "__init__"
  sL : SupAt K T.a_Lagging T.a_Lagging T.a_Wheel_init "__init__"
  sG : SupAt K T.a_Grid T.a_Grid T.a_Wheel_init "__init__"
  fn : PySem.W.isFn K (.ref T.a_Wheel_eq) = true
  mro_o : PySem.W.mroIn K T.a_Wheel (.type "object") = some true
  ne : PySem.W.findIn K (.ref T.a_Wheel) "__ne__" = some (some (.builtin "object.__ne__"))
  str : PySem.W.findIn K (.ref T.a_Wheel) "__str__" = some (some (.ref T.a_Wheel_str))
  fnS : PySem.W.isFn K (.ref T.a_Wheel_str) = true
  /-- what is of these kinds is no wheel, and is not asked first -/
  no : ∀ t ∈ (["NoneType", "int", "tuple", "str"] : List String), PySem.W.notFirst K T.a_Wheel (.type t) = true ∧ PySem.W.kitOne K (.type t) (.ref T.a_Wheel) = some false
  /-- of two classes the right one is not asked first, or it is below the left one -/
  ord : ∀ C ∈ [T.a_Wheel, T.a_Even, T.a_Exact, T.a_Lagging, T.a_Grid], ∀ C' ∈ [T.a_Wheel, T.a_Even, T.a_Exact, T.a_Lagging, T.a_Grid],
    PySem.W.notFirst K C (.ref C') = true ∨ (PySem.W.subIn K (.ref C') (.ref C) = some true ∧ (Value.ref C != Value.ref C') = true)
  cv : ∀ q ∈ [(T.a_Wheel, false), (T.a_Even, false), (T.a_Exact, false), (T.a_Lagging, false), (T.a_Grid, true)], ClX.CRead K q.1 (.type "type") ∧ ∃ u, ClX.CVal K q.1 (.type "type") "TRUSTED" (.bl q.2) u

/-! ### an error that is caught and kept -/
/-- at a: an exception of the class cls whose own dict is d -/
def XO (a : Addr) (cls : Value) (d : Option Addr) : HO := .ext fun h => ∃ (o : Obj) (vs : Array Value), h.get? a = some o ∧ Zc cls d o ∧ o.data = .fields vs
theorem XO_at {P : Program} {w : World} {H : Hp} {h : Heap} {a : Addr} {cls : Value} {d : Option Addr} (hok : HOk P w H h) (e : H a = some (XO a cls d)) : ∃ (o : Obj) (vs : Array Value), h.get? a = some o ∧ Zc cls d o ∧ o.data = .fields vs := by
  have x : ObjOk P w H h a (.ext fun h => ∃ (o : Obj) (vs : Array Value), h.get? a = some o ∧ Zc cls d o ∧ o.data = .fields vs) := hok a _ e
  exact x.1
theorem XO_ne {a : Addr} {cls : Value} {d : Option Addr} {u : HO} (h : ∀ φ, u ≠ .ext φ) : XO a cls d ≠ u := fun z => h _ z.symm
/-- an object that stands in the heap since the entry is taken up -/
theorem track {X : Cx} {pins : List (Addr × Obj)} {σ : L2.St} {H : Hp} {s : Shared} {a : Addr} {cls : Value} {d : Option Addr} {o : Obj} {vs : Array Value} (I : Inv X pins σ H s) (ha : s.heap.get? a = some o) (hz : Zc cls d o) (hd : o.data = .fields vs) (na : H a = Option.none)
    (n0 : X.s_0.heap.get? a = Option.none) (np : ∀ p ∈ X.pn ++ pins, p.1 ≠ a) (nL : a ≠ X.env.locals) : Inv X pins σ (upd H a (XO a cls d)) s := by
  have other : ∀ b u, H b = some u → b ≠ a := fun b u e => ne_of_none e na
  have cell : ∀ x c, X.env.cells.lookup x = some c → c ≠ a := fun x c e z => by
    obtain ⟨v, oc, q1, q2⟩ := I.cell x c e
    rw [z, ha] at q1
    cases q1
    rw [hd] at q2
    cases q2
  have start0 : ∀ b u, X.s_0.heap.get? b = some u → b ≠ a := fun b u e z => by
    rw [z, n0] at e
    cases e
  have B := I.base
  exact { ok := I.ok, os := I.os, bare := I.bare, loc := I.loc, cell := I.cell, len := I.len
          base := { keep := B.keep, slot := B.slot, there := B.there
                    free := fun b u e1 e2 e3 => by rw [upd_ne (start0 b u e1)]; exact B.free b u e1 e2 e3
                    tups := fun b xs e => by rw [upd_ne (other b _ (B.tups b xs e))]; exact B.tups b xs e
                    frzs := fun b ob u e => by rw [upd_ne (other b _ (B.frzs b ob u e))]; exact B.frzs b ob u e
                    tbls := fun b ps e => by
                      obtain ⟨more, q⟩ := B.tbls b ps e
                      exact ⟨more, by rw [upd_ne (other b _ q)]; exact q⟩ }
          free := by rw [upd_ne (Ne.symm nL)]; exact I.free
          freeC := fun x c e => by rw [upd_ne (cell x c e)]; exact I.freeC x c e
          pin := fun p hp => by
            obtain ⟨q1, q2, q3⟩ := I.pin p hp
            exact ⟨q1, by rw [upd_ne (np p hp)]; exact q2, q3⟩
          hok := fun b u e => by
            by_cases hb : b = a
            · rw [hb, upd_same] at e
              cases e
              rw [hb]
              exact ⟨⟨o, vs, ha, hz, hd⟩, ⟨o, ha⟩, fun h1 h2 ⟨o1, v1, q1, q2⟩ k => ⟨o1, v1, k _ q1, q2⟩⟩
            · rw [upd_ne hb] at e
              exact (I.hok b u e).stay (fun _ _ _ q => q) (fun c q => by rw [upd_ne (other c _ q)]; exact q) fun c xs q => by rw [upd_ne (other c _ q)]; exact q }
/-- what the clause «except x as n» wishes, the error kept behind it -/
def wKeep (K : PySem.W.Frag) (c : Value) (i : Nat) (ts : Addr → Value → Option Addr → TS) (D : Ends) : WX := fun cls d σ H =>
  PySem.W.exmOne K cls c = some true ∧ ∀ a, H a = Option.none → ts a cls d { nx := fun σ1 H1 => H1 a = Option.none → D.nx (σ1.set i Option.none) (upd H1 a (XO a cls d)), rt := fun _ _ => False } (σ.set i (some (.ref a))) H
section
variable {X : Cx} {x n : Str} {c : Value} {i : Nat} {body suite : List Stmt} {b₀ : Stmt} {np pos pos' : Pos} {tb : WX → TS} {ts : Addr → Value → Option Addr → TS}
theorem ps_try_keep (hs : X.stack = X.env :: X.outer) (hf : X.env.frame = some X.env.locals) (hex : X.ex = []) (hN : X.N.Nodup) (hi : X.N[i]? = some n) (hln : X.env.kindOf n = some .local) (hc : Names X x c)
    (hb : ∀ (W : WX) (pn : List (Addr × Obj)) (xe : Value → Shared → Prop), Takes (X.tr pn xe) W → PassesOwn (model X.prog X.w) X.A X.env xe → PSs (X.tr pn xe) body (tb W))
    (hsu : ∀ (a : Addr) (oe : Obj) (cls : Value) (d : Option Addr) (pn : List (Addr × Obj)), Zc cls d oe → (∃ vs, oe.data = .fields vs) → PSs (X.suite a ((a, oe) :: pn)) (b₀ :: suite) (ts a cls d)) :
    PS X (.Try body [.ExceptHandler (some (.Name x np)) (some n) (b₀ :: suite) pos'] [] [] pos) (fun D σ H => tb (wKeep X.K c i ts D) D σ H) := by
  refine ⟨fun pins s σ H D I h => wpAny_Try_except ?_⟩
  have ok := I.ok
  have frames : X.A.frames = some (X.env :: X.outer) := ok.frames.trans (by rw [hs])
  have R := (hb (wKeep X.K c i ts D) (X.pn ++ pins)
    (fun e q1 => wpAny (model X.prog X.w) X.A (noteFrame e X.env) (fun _ q2 => wpAny (model X.prog X.w) X.A (setFlight e none) (fun _ q3 => wpAny (model X.prog X.w) X.A (handleBy e X.env [.ExceptHandler (some (.Name x np)) (some n) (b₀ :: suite) pos']) (SP X pins D) X.xe q3) X.xe q2) X.xe q1)
    (fun u q xx => ?caught) PassesOwn.looking).run [] s σ H D (I.toTry _) h
  case caught =>
    obtain ⟨a, B, t, ps1, σ1, H1, cls, d, rfl, J0, ground, upto, sky, na, os, ag, yes, rest⟩ := xx
    have J : Inv X pins σ1 H1 t := J0.ofTry ok
    show wpAny (model X.prog X.w) X.A (noteFrame (.ref a) X.env) _ _ _
    refine Sky.land Zc.steady frames hf (hs ▸ sky) fun hp fl upto2 => ?_
    have J1 : Inv X pins σ1 H1 { q with heap := hp } := J.landed ground fl.1 (upto.trans upto2) os ag
    obtain ⟨o1, v1, at1, z1, d1⟩ := fl.there
    have nfr : a ∉ frs (X.env :: X.outer) := fun hm => by
      obtain ⟨_, o2, e2, nd⟩ := fl.2.2.1.mem hm
      rw [at1] at e2
      cases e2
      exact nd _ d1
    have nL : a ≠ X.env.locals := fun z => nfr (List.mem_filterMap.mpr ⟨X.env, List.mem_cons_self, by rw [hf, z]⟩)
    have nF : a ∉ X.fs := fun hm => by
      obtain ⟨e, he, z⟩ := List.mem_filterMap.mp hm
      exact nfr (List.mem_filterMap.mpr ⟨e, List.mem_cons_of_mem _ he, z⟩)
    -- it did not stand there
    have nt : t.heap.get? a = Option.none := by
      match z : t.heap.get? a with
      | Option.none => rfl
      | some o2 =>
        have z2 := ground a o2 z (by rw [hs]; exact nfr)
        rw [fl.2.1] at z2
        cases z2
    have n0 : X.s_0.heap.get? a = Option.none := by
      match z : X.s_0.heap.get? a with
      | Option.none => rfl
      | some o2 =>
        obtain ⟨o3, z3⟩ := J.base.there a o2 z (by rw [hex]; exact List.not_mem_nil)
        rw [nt] at z3
        cases z3
    have npn : ∀ p ∈ X.pn ++ pins, p.1 ≠ a := fun p hp z => by
      have z2 := (J.pin p hp).1
      rw [z, nt] at z2
      cases z2
    have S1 := J1.suite at1 d1 na nL nF
    refine wpAny_handleBy_cons (codeAny_handlers_test ?_) (by intro z; cases z)
    have kind : PySem.W.Looks (model X.prog X.w) hp (typeOf (.ref a)) cls := fun A Q E s1 k z => wpAny_typeOf_ref (k _ _ at1) (by rw [z1.1]; exact z)
    have meets := PySem.W.exm_one (M := model X.prog X.w) J1.kIn kind yes
    have look : ∀ {Q : Value → Shared → Prop} {E : Value → Shared → Prop}, Q c { q with heap := hp } → wpAny (model X.prog X.w) (X.A.mark (some (.ref a))) (eval (.Name x np) X.env) Q E { q with heap := hp } := fun {Q E} z => by
      obtain ⟨g1, g2, g3⟩ := hc
      rcases g3 with g3 | ⟨g3, g4, g5⟩
      · exact ld_glob (X := X.suite a ((a, o1) :: (X.pn ++ pins))) S1 g1 g3 z g2
      · exact ld_blt (X := X.suite a ((a, o1) :: (X.pn ++ pins))) S1 g1 g3 g4 z g5 g2
    refine look (meets.here (codeAny_handlers_suite_as (HandSPX.lands_againZ fl fun hp2 fl2 upto3 => ?_)))
    have J2 : Inv X pins σ1 H1 { q with heap := hp2 } := J.landed ground fl2.1 ((upto.trans upto2).trans upto3) os ag
    obtain ⟨o2, v2, at2, z2, d2⟩ := fl2.there
    refine store_ok (X := X.suite a ((a, o2) :: (X.pn ++ pins))) (v := .ref a) (J2.suite at2 d2 na nL nF) hN hi (.inl hln) rfl (fun s5 S5 => ?_) (.inr hln)
    refine wpAny_mono ((hsu a o2 cls d (X.pn ++ pins) z2 ⟨_, d2⟩).run [] s5 _ H1 _ S5 (rest a na)) (fun f s6 hsp => ?_) (fun _ _ z => z.elim)
    match f, hsp with
    | .next, ⟨σ6, H6, S6, q6⟩ =>
      obtain ⟨p1, p2, _⟩ := S6.pin (a, o2) (List.mem_append_left _ List.mem_cons_self)
      have J6 := track (S6.unsuite ok) p1 z2 d2 p2 n0 npn nL
      exact gone_ok J6 hN hi hln fun s7 J7 => ⟨_, _, J7, q6 p2⟩
    | .ret u, ⟨_, _, _, _, _, z⟩ => exact z.elim
    | .brk, ⟨_, _, _, z⟩ => exact z.elim
    | .cont, ⟨_, _, _, z⟩ => exact z.elim
  refine wpAny_mono R (fun f s1 hsp => ?_) fun e s1 he => he
  match f, hsp with
  | .next, ⟨σ1, H1, J, q⟩ => exact wpAny_execs_nil ⟨σ1, H1, J.ofTry ok, q⟩
  | .ret u, ⟨v, σ1, H1, J, r, q⟩ => exact ⟨v, σ1, H1, J.ofTry ok, r, q⟩
  | .brk, ⟨σ1, H1, J, q⟩ => exact ⟨σ1, H1, J.ofTry ok, q⟩
  | .cont, ⟨σ1, H1, J, q⟩ => exact ⟨σ1, H1, J.ofTry ok, q⟩
end
/-- what the written part says of an error's class C -/
structure ErrC (K : PySem.W.Frag) (C : Addr) : Prop where
  cl : (PySem.W.clsIn K C).isSome = true
  ga : PySem.W.findIn K (.ref C) "__getattribute__" = some (some (.builtin "BaseException.__getattribute__"))
  gg : PySem.W.findIn K (.ref C) "__getattr__" = some Option.none
  ex : PySem.W.subIn K (.ref C) (.type "BaseException") = some true
  hd : PySem.W.hasDictIn K C = true
  ha : PySem.W.findIn K (.ref C) "__class__" = some (some (.builtin "object.__class__"))
  hn : PySem.W.specialIn K (.builtin "object.__class__") "__get__" = some (some (.builtin "getset_descriptor.__get__"))
  ht : PySem.W.takesIn K (.builtin "object.__class__") = some true
  hm : PySem.W.mroIn K C (.type "object") = some true
theorem XO_inst {X : Cx} {pins : List (Addr × Obj)} {σ : L2.St} {H : Hp} {s : Shared} {a C d : Addr} {fs : List (Str × V)} (I : Inv X pins σ H s) (e : H a = some (XO a (.ref C) (some d))) (ed : H d = some (.xd fs)) :
    ∃ (o od : Obj), PySem.W.InstAt s.heap a o C (some od) ∧ ∃ mA : Str → Option Value, (∀ f, RelO (fs.lookup f) (mA f)) ∧ ∀ f : Str, PySem.W.lookIn f od = some (mA f) := by
  obtain ⟨o, vs, h1, h2, h3⟩ := XO_at I.hok e
  obtain ⟨mA, hns, hr⟩ := (show ObjOk X.prog X.w H s.heap d (.xd fs) from I.hok d _ ed)
  obtain ⟨od, ho, hl⟩ := lookIn_ns hns
  exact ⟨o, od, ⟨h1, h2.1, by unfold PySem.W.notCls; rw [h3] <;> rfl, by rw [h2.2]; exact ho⟩, mA, hr, hl⟩
/-- isinstance(e, c), e kept -/
def rIsK (K : PySem.W.Frag) : List V → Hp → VK → Prop := fun xs H Q => ∃ (a C d : Addr) (fs : List (Str × V)) (c : V) (cv : Value) (b : Bool), xs = [.ref a, c] ∧ H a = some (XO a (.ref C) (some d)) ∧ H d = some (.xd fs) ∧ ErrC K C ∧ (∀ u, RelV c u → u = cv) ∧ PySem.W.kitOne K (.ref C) cv = some b ∧ Q (.bl b) H
theorem call_isK {X : Cx} : CallR X (.builtin "isinstance") (rIsK X.K) := by
  intro pins s σ H xs us Q I r h
  obtain ⟨a, C, d, fs, c, cv, b, rfl, e, ed, T, hc, k, q⟩ := h
  obtain ⟨u1, u2, rfl, r1, r2⟩ := vals2 r
  obtain rfl : u1 = Value.ref a := r1
  have e2 := hc _ r2
  subst e2
  obtain ⟨o, od, J, _⟩ := XO_inst I e ed
  exact PySem.W.kia_one (PySem.W.kitx_exc T.cl T.ga T.gg T.ex T.ha T.hn T.ht T.hm) I.kIn J k (fun z => nomatch z) fun tk => ⟨.bl b, H, I.kept (t' := tk) fun _ _ z => z, rfl, q⟩
/-- e.f, e kept -/
def tFldK (K : PySem.W.Frag) (f : Str) (te : TE) : TE := fun σ H Q => te σ H fun x H1 => ∃ (a C d : Addr) (fs : List (Str × V)) (v : V), x = .ref a ∧ H1 a = some (XO a (.ref C) (some d)) ∧ H1 d = some (.xd fs) ∧ ErrC K C ∧ PySem.W.findIn K (.ref C) f = some Option.none ∧ fs.lookup f = some v ∧ Q v H1
theorem pe_fldK {X : Cx} {e : Expr} {te : TE} {f : Str} {pos : Pos} (he : PE X e te) (hb : attributeBase e f X.env (eval e X.env) = eval e X.env := by rfl) : PE X (.Attribute e f pos) (tFldK X.K f te) := by
  refine ⟨fun pins s σ H Q I h => attr_of hb (thn (he.run pins s σ H _ I h) fun u s1 hh => ?_)⟩
  obtain ⟨y, H1, I1, ry, a, C, d, fs, v, rfl, ea, ed, T, no, l, q⟩ := hh
  obtain rfl : u = Value.ref a := ry
  obtain ⟨o, od, J, mA, hr, hl⟩ := XO_inst I1 ea ed
  obtain ⟨u, hu, ru⟩ := RelO.some_of (v := v) (o := mA f) (by rw [← l]; exact hr f)
  exact HandSPX.exc_get I1.kIn J T.ga T.gg T.ex (PySem.W.findObj_own T.hd no rfl (by rw [hl, hu])) (handed_of ru) ⟨v, H1, I1.tok _, ru, q⟩

/-! ### a def that calls the lambda it got; what the caught error meets is told of the names as they stand at the call -/
/-- the context of that def's body, entered at s -/
abbrev zCx (X : Cx) (Ng : List Str) (x : Str) (sg : Scope) (g : Addr) (cdg : Value) (s : Shared) (H : Hp) : Cx :=
  cxOf C8.CX0 X.prog X.w X.K X.mg X.base Ng x sg g cdg X.A X.stack s H C8.E0
/-- what is there of the lambda f: its object, as the text made it -/
structure LamAt (X : Cx) (H : Hp) (s : Shared) (params : Arguments) (body : Expr) (scope : Scope) (f c' : Addr) : Prop where
  obj : ∃ pm ctv, s.heap.get? f = some (PySem.W.kla_obj "<lambda>" (X.env.qual ++ "<lambda>") params body scope (cloFrom X.env.cells scope.names []) pm c' ctv)
  un : H f = Option.none
  fr : f ∉ frs X.stack
section
variable {X : Cx} {pins : List (Addr × Obj)} {σ : L2.St} {H HZ : Hp} {s s1 : Shared} {Ng : List Str} {x a : Str} {sg scope : Scope} {g f c' : Addr} {cdg : Value} {params : Arguments} {body : Expr} {k : Nat} {tb : TE} {E : XK} {Q : VK}
/-- the lambda runs: its body, told of the names around it -/
theorem lam_runs (I : Inv X pins σ H s) (L : LamX.LamS X.env.scope scope) (F : LamAt X H s params body scope f c')
    (hbind : ∀ (q : Str) (cl : List (Str × Addr)) (pm cv ctv : Value), bindArgs (PySem.W.kla_fn "<lambda>" q params body scope cl pm cv ctv) ⟨[], []⟩ = pure []) (hr : Room (k + 1) (zCx X Ng x sg g cdg s H).A)
    (hbody : ∀ (A : Around) (outer : List Env) (s : Shared) (H : Hp), Room k (A.deeper (LamX.lamEnv X scope s.heap.objs.size f c')) → PE (LamX.lamCx X A outer s H E scope f c') body tb)
    {pn : List (Addr × Obj)} {xe : Value → Shared → Prop} {pZ : List (Addr × Obj)} {σZ : L2.St} (I1 : Inv ((zCx X Ng x sg g cdg s H).tr pn xe) pZ σZ HZ s1)
    (hc : HZ c' = some (LamX.CodeO c' (X.env.qual ++ "<lambda>"))) (ht : tb σ HZ Q) :
    (∃ o : Obj, s1.heap.get? f = some o ∧ ∃ (fq : Str) (cl : List (Str × Addr)) (pm ctv : Value), o = PySem.W.kla_obj "<lambda>" fq params body scope cl pm c' ctv) ∧
    codeAny (model X.prog X.w) (zCx X Ng x sg g cdg s H).A (.call (.ref f) ⟨[], []⟩) (CR (L2.CX X.prog X.w) (zCx X Ng x sg g cdg s H).stack X.prog X.w HZ s1 Q E) s1 := by
  obtain ⟨pm, ctv, hf⟩ := F.obj
  have nx : f ∉ (zCx X Ng x sg g cdg s H).ex := by
    show f ∉ ([] : List Addr)
    simp
  have at1 := I1.base.keep f _ hf F.un F.fr nx
  obtain ⟨w1, _⟩ := I1.hok c' _ hc
  obtain ⟨oc, vs, t, q1, q2, q3⟩ := w1
  have un : Un (frs X.stack) [] H HZ s.heap s1.heap := I1.base
  refine ⟨⟨_, at1, _, _, _, _, rfl⟩, PySem.W.kla_callFunE hr.depth at1 rfl L.co L.gen rfl ⟨c', oc, vs, t, rfl, q1, q2, q3⟩ ?_⟩
  rw [hbind]
  refine wpAny_pure (wpAny_newFunctionEnv (fun y hy => (L.own y hy).2) (fun _ z => absurd z (by simp)) ?_ L.kind)
  intro h1 ns sb
  refine ⟨I1.nolimit.fresh _ sb, ?_⟩
  have keep : ∀ b o, s1.heap.get? b = some o → h1.get? b = some o := fun b o e => sb.extBut b o (Nat.ne_of_lt (Heap.lt_size e)) (Heap.get?_push_of_some _ e)
  have J := LamX.lam_start2 (E := E) (f := f) (c' := c') (tk := s1.toks + ([] : List (Str × Value)).length) I L I1.env0 hr.hd un ns keep
  refine PySem.W.kla_codeExpr (wpAny_mono ((hbody _ _ s1 HZ (hr.deeper _)).run [] _ _ HZ Q J ht) ?_ ?_)
  · rintro v s' ⟨w2, H2, J2, r2, q⟩
    exact ⟨w2, H2, J2.os, J2.bare, J2.base, J2.hok, r2, q⟩
  · exact fun _ _ z => z
/-- a(), a the name of the lambda there -/
theorem act_w (I : Inv X pins σ H s) (L : LamX.LamS X.env.scope scope) (F : LamAt X H s params body scope f c')
    (hbind : ∀ (q : Str) (cl : List (Str × Addr)) (pm cv ctv : Value), bindArgs (PySem.W.kla_fn "<lambda>" q params body scope cl pm cv ctv) ⟨[], []⟩ = pure []) (hr : Room (k + 1) (zCx X Ng x sg g cdg s H).A)
    (hbody : ∀ (A : Around) (outer : List Env) (s : Shared) (H : Hp), Room k (A.deeper (LamX.lamEnv X scope s.heap.objs.size f c')) → PE (LamX.lamCx X A outer s H E scope f c') body tb)
    {pn : List (Addr × Obj)} {xe : Value → Shared → Prop} {W : WX} {p1 p2 : Pos} (tk : Takes ((zCx X Ng x sg g cdg s H).tr pn xe) W) (hN : Ng[0]? = some a) (hv : Vis sg a) (hd : (a == ("__debug__" : Str)) = false) (hcd : (a == ("__classdict__" : Str)) = false) :
    PE ((zCx X Ng x sg g cdg s H).tr pn xe) (.Call (.Name a p1) [] [] p2)
      (fun σZ HZ Q => σZ[0]? = some (some (.ref f)) ∧ HZ c' = some (LamX.CodeO c' (X.env.qual ++ "<lambda>")) ∧ (∀ cls d H', E cls d H' → W cls d σZ H') ∧ tb σ HZ Q) := by
  constructor
  intro pZ sZ σZ HZ Q IZ ⟨h0, hc, hW, ht⟩
  have V := (pe_var (X := (zCx X Ng x sg g cdg s H).tr pn xe) (pos := p1) (i := 0) hN hv hd hcd).run pZ sZ σZ HZ (fun v H1 => v = .ref f ∧ H1 = HZ) IZ ⟨.ref f, h0, rfl, rfl⟩
  refine wpAny_Call_Name_kw (thn V fun u s1 hu => ?_)
  obtain ⟨v, H1, I1, r1, rfl, rfl⟩ := hu
  obtain rfl : u = Value.ref f := r1
  obtain ⟨⟨o, ho, fq, cl, pm, ctv, rfl⟩, run⟩ := lam_runs I L F hbind hr hbody I1 hc ht
  refine PySem.W.callWith_F0 ⟨_, _, _, _, ho⟩ (wpAny_call (codeAny_mono run fun r s' z => ?_))
  match r, z with
  | .error e, z => exact tk e s' (XE.of_call I1 hW z)
  | .ok (.ret u), z => exact I1.after z
end
/-- the def's promise, whatever lambda it got -/
def GivesW (X : Cx) (Ng : List Str) (x : Str) (sg : Scope) (g : Addr) (cdg : Value) (bg : List Stmt) (a : Str) (q : Str) (TT : (XK → Hp → VK → Prop) → Hp → VK → Prop) : Prop :=
  ∀ (f c' : Addr) (s : Shared) (H : Hp) (Q : VK) (tl : XK → Hp → VK → Prop),
    (∀ (W : WX) (pn : List (Addr × Obj)) (xe : Value → Shared → Prop) (E : XK) (p1 p2 : Pos), Takes ((zCx X Ng x sg g cdg s H).tr pn xe) W →
      PE ((zCx X Ng x sg g cdg s H).tr pn xe) (.Call (.Name a p1) [] [] p2) fun σZ HZ Q => σZ[0]? = some (some (.ref f)) ∧ HZ c' = some (LamX.CodeO c' q) ∧ (∀ cls d H', E cls d H' → W cls d σZ H') ∧ tl E HZ Q) →
    H c' = some (LamX.CodeO c' q) → TT tl H Q → ∃ t, PSs (zCx X Ng x sg g cdg s H).nox bg t ∧ t { nx := fun _ H' => Q .non H', rt := Q } (L2.start Ng [.ref f]) H
/-- x(lambda: body) -/
theorem pe_lamW {X : Cx} {TT : (XK → Hp → VK → Prop) → Hp → VK → Prop} {x a : Str} {st : Stmt} {fd : FuncData} {g c P : Addr} {k : Nat} {Ng : List Str} {params : Arguments} {body : Expr} {scope : Scope} {t : XK → TE} {p lpos pos : Pos}
    (hg : Gl X x) (hm : X.mg x = some (.ref g)) (Fg : Fun X.K x x st g fd) (hb : L2.Binds X.K fd [a] []) (Sg : FnScope Ng [a] (defScope st)) (hNg : Ng[0]? = some a) (hva : Vis (defScope st) a)
    (hG : ∀ cdg, GivesW X Ng x (defScope st) g cdg (defBody st) a (X.env.qual ++ "<lambda>") TT)
    (TB : LamX.TabB X.base X.mg c P) (hcode : X.env.code = .ref c) (hr : Room (k + 2) X.A) (L : LamX.LamS X.env.scope scope) (hdef : defaultsOf params X.env = ([], []))
    (hbind : ∀ (q : Str) (cl : List (Str × Addr)) (pm cv ctv : Value), bindArgs (PySem.W.kla_fn "<lambda>" q params body scope cl pm cv ctv) ⟨[], []⟩ = pure [])
    (hbody : ∀ (A : Around) (outer : List Env) (s : Shared) (H : Hp) (E : XK) (f c' : Addr), Room k (A.deeper (LamX.lamEnv X scope s.heap.objs.size f c')) → PE (LamX.lamCx X A outer s H E scope f c') body (t E))
    (hdb : (x == ("__debug__" : Str)) = false := by decide) (hd : (a == ("__debug__" : Str)) = false := by decide) (hcd : (a == ("__classdict__" : Str)) = false := by decide) :
    PE X (.Call (.Name x p) [.Lambda params body scope lpos] [] pos) (LamX.tLam [(P, X.env.qual ++ "<lambda>")] TT t) := by
  constructor
  intro pins s σ H Q I ⟨hT, h⟩
  obtain ⟨oc, od, kV, doc, pm, an, cdv, ct, osl, rfl, lk, hcg⟩ := Fg.ex
  refine wpAny_Call_Name_kw (ld_glob I hg hm ?_ hdb)
  refine PySem.W.callWith_K (h₀ := X.base) I.ok.mod.kin Fg.kp ?_ (by rfl) (by rfl)
  refine Calls.spliced_cons (LamX.lam_make2 I TB hcode List.mem_cons_self (fun p hp _ => by rw [List.mem_singleton.mp hp]) hT hdef (L.has I.ok) ?_)
  intro f c' pm' ctv H1 s' I1 eN T1 hf hfn hfr hco
  refine Calls.spliced_nil ⟨I1.kIn, wpAny_call ?_⟩
  have F1 : LamAt X H1 s' params body scope f c' := ⟨⟨_, _, hf⟩, hfn, hfr⟩
  refine codeAny_mono (LamX.run_ofS (CX := C8.CX0) (E := C8.E0) (Q := Q) (N := Ng) (ps := [a]) (us := [.ref f]) (vs := [.ref f]) lk hcg Sg hr I1.env0 (hb s' [.ref f] I1.kIn rfl) (.cons rfl .nil) rfl fun hr' => ?_) fun r s2 z => ?_
  · obtain ⟨t', ht', hq'⟩ := hG cdv f c' s' H1 Q (fun E H' Q' => t E σ H' Q') (fun W pn xe E p1 p2 tk => act_w I1 L F1 hbind hr' (fun A outer s H hr2 => hbody A outer s H E f c' hr2) tk hNg hva hd hcd) hco (h H1 eN T1)
    exact ⟨t', ht'.nox, hq'⟩
  · match r, z with
    | .ok (.ret u), z => exact I1.after z

/-! ### what is heard of a call: its value in a list, or the part that a BadWheel tells -/
/-- what the written part says of the classes that are asked for -/
structure Caught (K : PySem.W.Frag) (mg : Str → Option Value) (C : Addr) where
  R : Addr
  m_R : mg "ReachError" = some (.ref R)
  ex : PySem.W.exmOne K (.ref C) (.ref R) = some true
  err : ErrC K C
  k1 : PySem.W.kitOne K (.ref C) (.ref C) = some true
  k2 : PySem.W.kitOne K (.ref C) (.type "ValueError") = some true
theorem takes_len {X : Cx} {W : WX} (t : Takes X W) : Takes X (fun cls d σ H => σ.length = X.N.length → W cls d σ H) := fun u s' ⟨a, B, sI, pins, σ, H, cls, d, e, I, nb, up, sky, na, os, ag, w⟩ =>
  t u s' ⟨a, B, sI, pins, σ, H, cls, d, e, I, nb, up, sky, na, os, ag, w I.len⟩
/-- what is wished of a raised BadWheel, told at the list M -/
def EHeard (C M : Addr) (Q : VK) : XK := fun cls d H' => ∃ (dx : Addr) (pt : Str), cls = .ref C ∧ d = some dx ∧ H' dx = some (.xd [("part", .str pt)]) ∧ H' M = some (.lst []) ∧
  ∀ (T : Addr) (H2 : Hp), H' T = Option.none → (∀ b o, b ≠ M → H' b = some o → H2 b = some o) → H2 T = some (.tup [.str "wheel", .str pt]) → Q (.ref T) H2
/-- the reading: the call returns v, or raises a BadWheel that tells a part -/
def TTheard (C : Addr) : (XK → Hp → VK → Prop) → Hp → VK → Prop := fun tl H Q =>
  ∀ M, H M = Option.none → tl (EHeard C M Q) (upd H M (.lst [])) (fun v H1 => 1 ≤ sizeLine ∧ ∀ L, H1 L = Option.none → Q (.ref L) (upd H1 L (.lst [v])))
theorem heard_gives {X : Cx} (T : Txt X.K X.mg) (B : Caught X.K X.mg T.bad.C) {k : Nat} (hr : Room (k + 1) X.A) {g : Addr} {cdg : Value} {q : Str} :
    GivesW X ["_law_ask", "_law_raised", "_law_told", "error"] "_law_heard" (defScope s_heard) g cdg (defBody s_heard) "_law_ask" q (TTheard T.bad.C) := by
  intro f c' s H Q tl act hc h
  have hr1 : Room k (cxOf CX0 X.prog X.w X.K X.mg X.base ["_law_ask", "_law_raised", "_law_told", "error"] "_law_heard" (defScope s_heard) g cdg X.A X.stack s H E0).nox.A := hr.deeper _
  refine ⟨_, pss_cons (ps_par (i := 1) (j := 2) (by rfl) sc_heard.nd rfl rfl (by decide) rfl rfl (pa_cons pe_non (pa_cons (pe_lst pa_nil) pa_nil)) (by rfl)) (pss_cons (ps_try_keep (i := 3) (c := .ref B.R)
      (tb := fun W D σ H1 => ∃ Ech : XK, (∀ cls d H', Ech cls d H' → W cls d σ H') ∧ σ[0]? = some (some (.ref f)) ∧ H1 c' = some (LamX.CodeO c' q) ∧ tl Ech H1 (fun v H1 => 1 ≤ sizeLine ∧ ∀ L, H1 L = Option.none → D.rt (.ref L) (upd H1 L (.lst [v]))))
      rfl rfl rfl sc_heard.nd rfl rfl ⟨rfl, by decide, .inl B.m_R⟩ (fun W pn xe tk _ => ?_) (fun a oe cls d pn _ _ => pss_one (ps_set (i := 1) sc_heard.nd rfl (Or.inl rfl) (pv 3))))
      (pss_cons (ps_if (pt_val (pe_callB call_isK (by rfl) T.n_isinstance (by decide +kernel) (pa_cons (pv 1) (pa_cons (pe_glob (v := .ref T.bad.C) rfl T.bad.m rfl) pa_nil))))
        (pss_one (ps_expr (pe_bm PySem.F.plainAttrs_list PySem.F.slot_list_append PySem.F.type_list_append mt_append (pv 2) (pa_cons (pe_tup (pa_cons pe_str (pa_cons (pe_fldK (pv 1)) pa_nil))) pa_nil)))) pss_nil)
      (pss_one (ps_ret (pe_ifExp
        (PW.pt (pw_and (pt_cmpR op_eq (pe_callB call_len_seq (by rfl) T.n_len (by decide +kernel) (pa_cons (pv 2) pa_nil)) pe_int (nomark _))
          (pw_and1 (pt_val (pe_callB call_isK (by rfl) T.n_isinstance (by decide +kernel) (pa_cons (pv 1) (pa_cons (pe_bltn (v := .ty "ValueError") (u := .type "ValueError") (by rfl) T.n_ValueError (by decide +kernel) rfl) pa_nil)))))))
        (pe_ix ix_list (pv 2) pe_int (fun _ _ => rfl)) pe_str))))), ?_⟩
  · refine ⟨fun pins s' σ H' D I h' => ?_⟩
    obtain ⟨Ech, hW, h1, h2, h3⟩ := h'
    refine PSs.run (pss_one (ps_ret (pe_lst (pa_cons (act _ pn xe Ech _ _ tk) pa_nil)))) pins s' σ H' D I ?_
    exact ⟨h1, h2, hW, h3⟩
  · refine ⟨(by show 0 ≤ sizeLine; decide), fun M hM => ⟨_, _, rfl, ?_⟩⟩
    refine ⟨EHeard T.bad.C M Q, ?_, rfl, ?_, h M hM⟩
    · rintro cls d H' ⟨dx, pt, rfl, rfl, hdx, hMM, k⟩
      refine ⟨B.ex, fun a na => ⟨_, rfl, fun na2 => ?_⟩⟩
      have sa : Same H' (upd H' a (XO a (.ref T.bad.C) (some dx))) := same_new na2
      have ea : (upd H' a (XO a (.ref T.bad.C) (some dx))) a = some (XO a (.ref T.bad.C) (some dx)) := upd_same
      have ed := sa _ _ hdx
      have eM := sa _ _ hMM
      generalize upd H' a (XO a (.ref T.bad.C) (some dx)) = H2 at sa ea ed eM ⊢
      refine ⟨_, rfl, a, T.bad.C, dx, _, _, _, true, rfl, ea, ed, B.err, fun u hu => hu, B.k1, true, rfl, iteT ?_⟩
      refine ⟨_, rfl, .inl ⟨rfl, _, SqL.of eM⟩, _, rfl, a, T.bad.C, dx, _, _, rfl, ea, ed, B.err, T.bad.no, rfl, ?_⟩
      refine ⟨(by show 2 ≤ sizeLine; decide), fun tp htp => ?_⟩
      have nM : M ≠ tp := ne_of_none eM htp
      have sT : Same H2 (upd H2 tp (.tup [.str "wheel", .str pt])) := same_new htp
      have eT : (upd H2 tp (.tup [.str "wheel", .str pt])) tp = some (.tup [.str "wheel", .str pt]) := upd_same
      have ea := sT _ _ ea
      have ed := sT _ _ ed
      have eM := sT _ _ eM
      have hT0 : H' tp = Option.none := by
        match q : H' tp with
        | Option.none => rfl
        | some o => rw [sa _ _ q] at htp; cases htp
      have sA := sa.trans sT
      generalize upd H2 tp (.tup [.str "wheel", .str pt]) = H3 at sA eT ea ed eM ⊢
      refine ⟨M, _, _, rfl, rfl, eM, (by show 0 < sizeLine; decide), ?_⟩
      have nn : ∀ b o, b ≠ M → H3 b = some o → (upd H3 M (.lst ([] ++ [V.ref tp]))) b = some o := fun b o n e => by rw [upd_ne n]; exact e
      have eM2 : (upd H3 M (.lst ([] ++ [V.ref tp]))) M = some (.lst [V.ref tp]) := upd_same
      have aM : a ≠ M := fun z => by
        rw [z, eM] at ea
        exact XO_ne (fun φ h => by cases h) (Option.some.inj ea).symm
      have dM : dx ≠ M := fun z => by rw [z, eM] at ed; cases ed
      have ea := nn _ _ aM ea
      have ed := nn _ _ dM ed
      have eT := nn _ _ (Ne.symm nM) eT
      have kk := k tp (upd H3 M (.lst ([] ++ [V.ref tp]))) hT0 (fun b o n e => nn b o n (sA b o e)) eT
      generalize upd H3 M (.lst ([] ++ [V.ref tp])) = H4 at eM2 ea ed kk ⊢
      refine ⟨_, rfl, M, _, rfl, .inl (SqL.of eM2), rfl, _, rfl, iteT ?_⟩
      refine ⟨_, rfl, a, T.bad.C, dx, _, _, _, true, rfl, ea, ed, B.err, fun u hu => hu, B.k2, true, rfl, iteT ?_⟩
      exact ⟨_, rfl, M, _, 0, _, rfl, rfl, SqL.of eM2, rfl, kk⟩
    · rw [upd_ne]
      · exact hc
      · rintro rfl
        rw [hc] at hM
        cases hM

theorem core_ext {p : Addr} {H H' : Hp} (e : LamX.ExtN H H') : Same (core p H) H' := fun b o q => by
  obtain ⟨_, q2, q3⟩ := core_of q
  exact e b o q3 q2
theorem Pen.extN {H H' : Hp} {p : Addr} {n : Nat} (h : Pen H p n) (s : LamX.ExtN H H') : Pen H' p n := by
  obtain ⟨c, ns, i, g, h1, h2, h3⟩ := h
  exact ⟨c, ns, i, g, s _ _ h1 (fun ps z => nomatch z), s _ _ h2 (fun ps z => nomatch z), h3⟩
theorem tabs_fr {T : List (Addr × Str)} {p : Addr} {H H' : Hp} {n : Nat} (f : Fr p H H') (hP : Pen H p n) (t : LamX.Tabs T H) : LamX.Tabs T H' := fun q hq => by
  obtain ⟨xs, hp⟩ := hP.at
  obtain ⟨ps, h1, h2, h3⟩ := t q hq
  refine ⟨ps, f _ _ (fun z => by rw [z, hp] at h1; cases h1) h1, h2, fun pos cv hc => ?_⟩
  obtain ⟨c, e1, e2⟩ := h3 pos cv hc
  exact ⟨c, e1, f _ _ (fun z => by rw [z, hp] at e2; exact absurd (Option.some.inj e2) (by unfold LamX.CodeO; exact fun z => nomatch z)) e2⟩
theorem tabs_upd {T : List (Addr × Str)} {H : Hp} {L : Addr} {xs ys : List V} (hL : H L = some (.lst xs)) (t : LamX.Tabs T H) : LamX.Tabs T (upd H L (.lst ys)) := fun q hq => by
  obtain ⟨ps, h1, h2, h3⟩ := t q hq
  refine ⟨ps, by rw [upd_ne (fun z => by rw [z, hL] at h1; cases h1)]; exact h1, h2, fun pos cv hc => ?_⟩
  obtain ⟨c, e1, e2⟩ := h3 pos cv hc
  exact ⟨c, e1, by rw [upd_ne (fun z => by rw [z, hL] at e2; exact absurd (Option.some.inj e2) (by unfold LamX.CodeO; exact fun z => nomatch z))]; exact e2⟩
/-- a def whose one argument is a lambda is told -/
theorem pe_heard {X : Cx} (T : Txt X.K X.mg) (B : Caught X.K X.mg T.bad.C) {k : Nat} (hr : Room (k + 2) X.A) {c P : Addr} (TB : LamX.TabB X.base X.mg c P) (hcode : X.env.code = .ref c) {params : Arguments} {body : Expr} {scope : Scope} {t : XK → TE} {p lpos pos : Pos}
    (hg : Gl X "_law_heard") (L : LamX.LamS X.env.scope scope) (hdef : defaultsOf params X.env = ([], []))
    (hbind : ∀ (q : Str) (cl : List (Str × Addr)) (pm cv ctv : Value), bindArgs (PySem.W.kla_fn "<lambda>" q params body scope cl pm cv ctv) ⟨[], []⟩ = pure [])
    (hbody : ∀ (A : Around) (outer : List Env) (s : Shared) (H : Hp) (E : XK) (f c' : Addr), Room k (A.deeper (LamX.lamEnv X scope s.heap.objs.size f c')) → PE (LamX.lamCx X A outer s H E scope f c') body (t E)) :
    PE X (.Call (.Name "_law_heard" p) [.Lambda params body scope lpos] [] pos) (LamX.tLam [(P, X.env.qual ++ "<lambda>")] (TTheard T.bad.C) t) :=
  pe_lamW hg T.m_heard T.F_heard (b_heard T) sc_heard rfl (.inl rfl) (fun cdg => heard_gives (k := k + 1) T B hr) TB hcode hr L hdef hbind hbody
/-- v is of a built-in kind and no integer between the two -/
def OddB (H : Hp) (lo : Int) (v : V) : Prop := (∃ t, NT H v t) ∧ betB lo 1000000000000 v = false
theorem OddB.same {H H' : Hp} {lo : Int} {v : V} (s : Same H H') (h : OddB H lo v) : OddB H' lo v := ⟨h.1.elim fun t ht => ⟨t, ht.same s⟩, h.2⟩
/-- the raised BadWheel is wished -/
theorem heard_err {H0 H : Hp} {C M : Addr} {Q : VK} {pt : Str} (s : Same (upd H0 M (.lst [])) H) (hM : H0 M = Option.none) (k : ∀ (T : Addr) (H2 : Hp), H0 T = Option.none → Same H0 H2 → H2 T = some (.tup [.str "wheel", .str pt]) → Q (.ref T) H2) : ErrP H C (EHeard C M Q) pt := by
  intro d H2 s2 hd h2
  have sx : ∀ b o, H0 b = some o → H2 b = some o := fun b o e => s2 _ _ (s _ _ (by rw [upd_ne (ne_of_none e hM)]; exact e))
  refine ⟨d, pt, rfl, rfl, h2, s2 _ _ (s _ _ upd_same), fun T H3 hT kk h3 => k T H3 ?_ (fun b o e => kk b o (ne_of_none e hM) (sx b o e)) h3⟩
  match q : H0 T with
  | Option.none => rfl
  | some o => rw [sx _ _ q] at hT; cases hT
/-- the list L has the pairs of the words ws -/
def PairsAt (H : Hp) (L : Addr) (ws : List Str) : Prop := ∃ Ts : List Addr, H L = some (.lst (Ts.map V.ref)) ∧ Ts.length = ws.length ∧ ∀ (i : Nat) (w : Str), ws[i]? = some w → ∃ T, Ts[i]? = some T ∧ H T = some (.tup [.str "wheel", .str w])
theorem pairs_dp {K : PySem.W.Frag} {H : Hp} : ∀ (Ts : List Addr) (ws : List Str), Ts.length = ws.length → (∀ (i : Nat) (w : Str), ws[i]? = some w → ∃ T, Ts[i]? = some T ∧ H T = some (.tup [.str "wheel", .str w])) →
    DpAll K H (Ts.map V.ref) (ws.map fun w => .tuple [.str "wheel", .str w])
  | [], [], _, _ => .nil
  | T :: Ts, w :: ws, hl, h => by
    obtain ⟨T', e, e2⟩ := h 0 w rfl
    cases e
    exact .cons (.tup (SqT.of e2) (.cons (.str _) (.cons (.str _) .nil))) (pairs_dp Ts ws (by simpa using hl) fun i w' e => h (i + 1) w' e)
theorem PairsAt.dp {K : PySem.W.Frag} {H : Hp} {L : Addr} {ws : List Str} (h : PairsAt H L ws) : Dp K H (.ref L) (.list (ws.map fun w => .tuple [.str "wheel", .str w])) := by
  obtain ⟨Ts, h1, h2, h3⟩ := h
  exact .lst (SqL.of h1) (pairs_dp Ts ws h2 h3)
theorem PairsAt.same {H H' : Hp} {L : Addr} {ws : List Str} (s : Same H H') (h : PairsAt H L ws) : PairsAt H' L ws := by
  obtain ⟨Ts, h1, h2, h3⟩ := h
  exact ⟨Ts, s _ _ h1, h2, fun i w e => (h3 i w e).imp fun T z => ⟨z.1, s _ _ z.2⟩⟩
theorem PairsAt.add {R : Prop} {H : Hp} {L T : Addr} {ws : List Str} {w : Str} (h : PairsAt H L ws) (hT : H T = some (.tup [.str "wheel", .str w])) (hl : ws.length < 100) (k : ∀ xs, H L = some (.lst xs) → PairsAt (upd H L (.lst (xs ++ [V.ref T]))) L (ws ++ [w]) → xs.length < sizeLine → (∀ b o, (∀ ys, o ≠ .lst ys) → H b = some o → (upd H L (.lst (xs ++ [V.ref T]))) b = some o) → R) : R := by
  obtain ⟨Ts, h1, h2, h3⟩ := h
  have nn : ∀ b o, (∀ ys, o ≠ .lst ys) → H b = some o → (upd H L (.lst (Ts.map V.ref ++ [V.ref T]))) b = some o := fun b o nl e => by
    rw [upd_ne (fun z => by rw [z, h1] at e; exact nl _ (Option.some.inj e).symm)]
    exact e
  refine k _ h1 ⟨Ts ++ [T], by rw [upd_same, List.map_append]; rfl, by rw [List.length_append, List.length_append, h2]; rfl, fun i w' e => ?_⟩ (by rw [List.length_map, h2]; exact Nat.lt_trans hl (by decide)) nn
  rcases Nat.lt_or_ge i ws.length with hi | hi
  · rw [List.getElem?_append_left hi] at e
    obtain ⟨T', e1, e2⟩ := h3 i w' e
    exact ⟨T', by rw [List.getElem?_append_left (by omega)]; exact e1, nn _ _ (fun _ z => nomatch z) e2⟩
  · rw [List.getElem?_append_right hi] at e
    have h0 : i - ws.length = 0 := by
      cases q : i - ws.length with
      | zero => rfl
      | succ j => rw [q] at e; cases e
    rw [h0] at e
    cases e
    refine ⟨T, ?_, nn _ _ (fun _ z => nomatch z) hT⟩
    rw [List.getElem?_append_right (by omega), h2, h0]
    rfl
/-- what is heard so far: the list L has the pairs of the words ws -/
structure Rf (P1 : Addr) (q : Str) (p : Addr) (n : Nat) (B0 : Hp) (L : Addr) (ws : List Str) (H : Hp) : Prop where
  tabs : LamX.Tabs [(P1, q)] H
  pen : Pen H p n
  kp : Same (core p B0) H
  no : core p B0 L = Option.none
  lst : PairsAt H L ws
theorem Rf.ext {P1 : Addr} {q : Str} {p : Addr} {n : Nat} {B0 : Hp} {L : Addr} {ws : List Str} {H H' : Hp} (h : Rf P1 q p n B0 L ws H) (x : LamX.ExtN H H') (t : LamX.Tabs [(P1, q)] H') : Rf P1 q p n B0 L ws H' := by
  obtain ⟨Ts, h1, h2, h3⟩ := h.lst
  refine ⟨t, h.pen.extN x, fun b o e => x b o (h.kp b o e) (core_of e).2.1, h.no, Ts, x _ _ h1 (fun _ z => nomatch z), h2, fun i w e => ?_⟩
  obtain ⟨T, e1, e2⟩ := h3 i w e
  exact ⟨T, e1, x _ _ e2 (fun _ z => nomatch z)⟩
theorem Rf.same {P1 : Addr} {q : Str} {p : Addr} {n : Nat} {B0 : Hp} {L : Addr} {ws : List Str} {H H' : Hp} (h : Rf P1 q p n B0 L ws H) (s : Same H H') : Rf P1 q p n B0 L ws H' := h.ext (fun b o e _ => s b o e) (h.tabs.ext s)
/-- one more is heard -/
theorem Rf.add {P1 : Addr} {q : Str} {p : Addr} {n : Nat} {B0 : Hp} {L T : Addr} {ws : List Str} {w : Str} {H : Hp} {Q : VK} (h : Rf P1 q p n B0 L ws H) (hT : H T = some (.tup [.str "wheel", .str w])) (h0 : 0 < ws.length) (hl : ws.length < 100) (nL : L ≠ p) (k : ∀ H', Rf P1 q p n B0 L (ws ++ [w]) H' → Q .non H') : rAppend (.ref L) [.ref T] H Q := by
  obtain ⟨Ts, g1, g2, g3⟩ := id h.lst
  refine h.lst.add hT hl fun xs h1 hp hz nn => ⟨L, xs, _, rfl, rfl, h1, hz, k _ ?_⟩
  refine ⟨tabs_upd h1 h.tabs, ?_, fun b o e => ?_, h.no, hp⟩
  · obtain ⟨c, ns, i, g, p1, p2, p3⟩ := h.pen
    have hc : c ≠ L := fun z => by
      rw [z, g1] at p2
      have := Option.some.inj p2
      injection this with this
      cases Ts with
      | nil => rw [← g2] at h0; exact absurd h0 (by simp)
      | cons _ _ => cases ns with
        | nil => cases this
        | cons _ _ => injection this with a b; cases a
    exact ⟨c, ns, i, g, by rw [upd_ne (Ne.symm nL)]; exact p1, by rw [upd_ne hc]; exact p2, p3⟩
  · rw [upd_ne (fun z => by rw [z, h.no] at e; cases e)]
    exact h.kp b o e
def wds : List Str := ["period", "back", "ahead", "period", "slip", "period", "period", "lag", "period"]
/-- a maker called in a lambda, its instance laid -/
theorem made_same {A0 : Hp} {M x dx C : Addr} (hx : (upd A0 M (.lst [])) x = Option.none) (hdx : (upd A0 M (.lst [])) dx = Option.none) (ne : dx ≠ x) : Same (upd A0 M (.lst [])) (upd (upd (upd A0 M (.lst [])) dx (.own x)) x (.ins C dx [])) := fun b o e => by
  rw [upd_ne (ne_of_none e hx), upd_ne (ne_of_none e hdx)]
  exact e
section
variable {A0 : Hp} {M x dx : Addr} {Q : VK} {Qv : VK} {p b a : V} {pt : Str}
theorem errW (T : Txt K mg) (W : Whl T) (hM : A0 M = Option.none) (hx : (upd A0 M (.lst [])) x = Option.none) (hdx : (upd A0 M (.lst [])) dx = Option.none) (ne : dx ≠ x) (np : ∃ t, NT A0 p t) (nb : ∃ t, NT A0 b t) (na : ∃ t, NT A0 a t)
    (h1 : betB 2 1000000000000 p = false → pt = "period") (h2 : betB 2 1000000000000 p = true → betB 0 1000000000000 b = false → pt = "back") (h3 : betB 2 1000000000000 p = true → betB 0 1000000000000 b = true → betB 0 1000000000000 a = false → pt = "ahead")
    (h4 : betB 2 1000000000000 p = true → betB 0 1000000000000 b = true → betB 0 1000000000000 a = true → False)
    (k : ∀ (T : Addr) (H2 : Hp), A0 T = Option.none → Same A0 H2 → H2 T = some (.tup [.str "wheel", .str pt]) → Q (.ref T) H2) :
    spWheelInit K T.bad.C [.ref x, p, b, a] (upd (upd (upd A0 M (.lst [])) dx (.own x)) x (.ins T.a_Wheel dx [])) Qv (EHeard T.bad.C M Q) := by
  obtain ⟨tp, np⟩ := np
  obtain ⟨tb, nb⟩ := nb
  obtain ⟨ta, na⟩ := na
  have s1 := made_same (C := T.a_Wheel) hx hdx ne
  have s0 : Same A0 (upd (upd (upd A0 M (.lst [])) dx (.own x)) x (.ins T.a_Wheel dx [])) := (same_new hM).trans s1
  have er : ErrP (upd (upd (upd A0 M (.lst [])) dx (.own x)) x (.ins T.a_Wheel dx [])) T.bad.C (EHeard T.bad.C M Q) pt := heard_err s1 hM k
  refine ⟨x, T.a_Wheel, dx, p, b, a, tp, tb, ta, rfl, W.W.w.w, upd_same, np.same s0, nb.same s0, na.same s0, fun z => h1 z ▸ er, fun z1 z2 => h2 z1 z2 ▸ er, fun z1 z2 z3 => h3 z1 z2 z3 ▸ er, ?_⟩
  rintro i j l rfl rfl rfl i1 i2 j1 j2 l1 l2
  exact (h4 (decide_eq_true ⟨i1, i2⟩) (decide_eq_true ⟨j1, j2⟩) (decide_eq_true ⟨l1, l2⟩)).elim
theorem errE (T : Txt K mg) (W : Whl T) (hM : A0 M = Option.none) (hx : (upd A0 M (.lst [])) x = Option.none) (hdx : (upd A0 M (.lst [])) dx = Option.none) (ne : dx ≠ x) (np : ∃ t, NT A0 p t) (nb : ∃ t, NT A0 b t)
    (h1 : betB 2 1000000000000 p = false → pt = "period") (h2 : betB 2 1000000000000 p = true → betB 0 1000000000000 b = false → pt = "slip") (h4 : betB 2 1000000000000 p = true → betB 0 1000000000000 b = true → False)
    (k : ∀ (T : Addr) (H2 : Hp), A0 T = Option.none → Same A0 H2 → H2 T = some (.tup [.str "wheel", .str pt]) → Q (.ref T) H2) :
    spEvenInit K T.bad.C T.a_Even T.a_Wheel_init [.ref x, p, b] (upd (upd (upd A0 M (.lst [])) dx (.own x)) x (.ins T.a_Even dx [])) Qv (EHeard T.bad.C M Q) := by
  obtain ⟨tp, np⟩ := np
  obtain ⟨tb, nb⟩ := nb
  have s1 := made_same (C := T.a_Even) hx hdx ne
  have s0 : Same A0 (upd (upd (upd A0 M (.lst [])) dx (.own x)) x (.ins T.a_Even dx [])) := (same_new hM).trans s1
  have er : ErrP (upd (upd (upd A0 M (.lst [])) dx (.own x)) x (.ins T.a_Even dx [])) T.bad.C (EHeard T.bad.C M Q) pt := heard_err s1 hM k
  refine ⟨x, T.a_Even, dx, p, b, tp, tb, rfl, W.E.w.w, W.sE, upd_same, np.same s0, nb.same s0, fun z => h1 z ▸ er, fun z1 z2 => h2 z1 z2 ▸ er, ?_⟩
  rintro i j rfl rfl i1 i2 j1 j2
  exact (h4 (decide_eq_true ⟨i1, i2⟩) (decide_eq_true ⟨j1, j2⟩)).elim
theorem errL (T : Txt K mg) (W : Whl T) (hM : A0 M = Option.none) (hx : (upd A0 M (.lst [])) x = Option.none) (hdx : (upd A0 M (.lst [])) dx = Option.none) (ne : dx ≠ x) (np : ∃ t, NT A0 p t) (nb : ∃ t, NT A0 b t)
    (h1 : betB 2 1000000000000 p = false → pt = "period") (h2 : betB 2 1000000000000 p = true → betB 0 1000000000000 b = false → pt = "lag") (h4 : betB 2 1000000000000 p = true → betB 0 1000000000000 b = true → False)
    (k : ∀ (T : Addr) (H2 : Hp), A0 T = Option.none → Same A0 H2 → H2 T = some (.tup [.str "wheel", .str pt]) → Q (.ref T) H2) :
    spLaggingInit K T.bad.C T.a_Lagging T.a_Wheel_init [.ref x, p, b] (upd (upd (upd A0 M (.lst [])) dx (.own x)) x (.ins T.a_Lagging dx [])) Qv (EHeard T.bad.C M Q) := by
  obtain ⟨tp, np⟩ := np
  obtain ⟨tb, nb⟩ := nb
  have s1 := made_same (C := T.a_Lagging) hx hdx ne
  have s0 : Same A0 (upd (upd (upd A0 M (.lst [])) dx (.own x)) x (.ins T.a_Lagging dx [])) := (same_new hM).trans s1
  have er : ErrP (upd (upd (upd A0 M (.lst [])) dx (.own x)) x (.ins T.a_Lagging dx [])) T.bad.C (EHeard T.bad.C M Q) pt := heard_err s1 hM k
  refine ⟨x, T.a_Lagging, dx, p, b, tp, tb, rfl, W.L.w.w, W.sL, upd_same, np.same s0, nb.same s0, fun z => h1 z ▸ er, fun z1 z2 => h2 z1 z2 ▸ er, ?_⟩
  rintro i j rfl rfl i1 i2 j1 j2
  exact (h4 (decide_eq_true ⟨i1, i2⟩) (decide_eq_true ⟨j1, j2⟩)).elim
theorem errX (T : Txt K mg) (W : Whl T) (hM : A0 M = Option.none) (hx : (upd A0 M (.lst [])) x = Option.none) (hdx : (upd A0 M (.lst [])) dx = Option.none) (ne : dx ≠ x) (np : ∃ t, NT A0 p t)
    (h1 : betB 2 1000000000000 p = false) (k : ∀ (T : Addr) (H2 : Hp), A0 T = Option.none → Same A0 H2 → H2 T = some (.tup [.str "wheel", .str "period"]) → Q (.ref T) H2) :
    spOneInit K T.bad.C T.a_Exact T.a_Wheel_init [.ref x, p] (upd (upd (upd A0 M (.lst [])) dx (.own x)) x (.ins T.a_Exact dx [])) Qv (EHeard T.bad.C M Q) := by
  obtain ⟨tp, np⟩ := np
  have s1 := made_same (C := T.a_Exact) hx hdx ne
  have s0 : Same A0 (upd (upd (upd A0 M (.lst [])) dx (.own x)) x (.ins T.a_Exact dx [])) := (same_new hM).trans s1
  refine ⟨x, T.a_Exact, dx, p, tp, rfl, W.X.w.w, W.sX, upd_same, np.same s0, fun _ => heard_err s1 hM k, ?_⟩
  rintro i rfl i1 i2
  exact absurd (h1.symm.trans (decide_eq_true ⟨i1, i2⟩)) (by decide)
theorem errG (T : Txt K mg) (W : Whl T) (hM : A0 M = Option.none) (hx : (upd A0 M (.lst [])) x = Option.none) (hdx : (upd A0 M (.lst [])) dx = Option.none) (ne : dx ≠ x) (np : ∃ t, NT A0 p t)
    (h1 : betB 2 1000000000000 p = false) (k : ∀ (T : Addr) (H2 : Hp), A0 T = Option.none → Same A0 H2 → H2 T = some (.tup [.str "wheel", .str "period"]) → Q (.ref T) H2) :
    spOneInit K T.bad.C T.a_Grid T.a_Wheel_init [.ref x, p] (upd (upd (upd A0 M (.lst [])) dx (.own x)) x (.ins T.a_Grid dx [])) Qv (EHeard T.bad.C M Q) := by
  obtain ⟨tp, np⟩ := np
  have s1 := made_same (C := T.a_Grid) hx hdx ne
  have s0 : Same A0 (upd (upd (upd A0 M (.lst [])) dx (.own x)) x (.ins T.a_Grid dx [])) := (same_new hM).trans s1
  refine ⟨x, T.a_Grid, dx, p, tp, rfl, W.G.w.w, W.sG, upd_same, np.same s0, fun _ => heard_err s1 hM k, ?_⟩
  rintro i rfl i1 i2
  exact absurd (h1.symm.trans (decide_eq_true ⟨i1, i2⟩)) (by decide)
end
def spRefused (P : Addr) (q : Str) : Sp := fun vs H Q _ => ∃ (p : Addr) (n : Nat), vs = [.ref p] ∧ Pen H p n ∧ n < 90000 ∧ LamX.Tabs [(P, q)] H ∧ ∀ H', Pen H' p (n + 2) → LamX.Tabs [(P, q)] H' → Q (.bl true) H'
theorem ok_refused_right (HP : PrF lawFile P) (T : Txt K mg) (W : Whl T) (B : Caught K mg T.bad.C) {f c P1 : Addr} {oc : Value} {od an : Option Addr} {osl : Array (Option Value)} {kV doc pm ct : Value}
    (lk : K.lookup f = some ⟨oc, od, .func (PySem.W.fnOf "_law_refused_right" "_law_refused_right" (defArgs s_refused_right) (defBody s_refused_right) (defScope s_refused_right) .none kV doc pm an (.ref c) ct), osl⟩) (hcd : PySem.W.codeIn K (.ref c) "_law_refused_right" = true)
    (Bd : Binds K (PySem.W.fnOf "_law_refused_right" "_law_refused_right" (defArgs s_refused_right) (defBody s_refused_right) (defScope s_refused_right) .none kV doc pm an (.ref c) ct) ["_law_pen_here"] []) (TB : LamX.TabB base mg c P1) :
    FnG P w K mg base CX0 9 f (spRefused P1 "_law_refused_right.<locals>.<lambda>") := by
  refine FnG.mkL lk hcd sc_refused_right Bd (fun vs H Q E h => ?_) (fun A outer s H vs Q E gu hr h => ?_)
  · obtain ⟨p, n, rfl, _⟩ := h; rfl
  · obtain ⟨p, n, rfl, hP, hn, hT, k⟩ := h
    refine ⟨_, pss_cons (ps_asg (pe_tup (pa_cons (pe_call (ok_pick T) (hr.mono (by decide)) rfl T.m_pick T.F_pick.kp (b_pick T) .nil pass0 (pa_cons (pv 0) (pa_cons (pe_lst (pa_cons (pe_non) (pa_cons (pe_int) (pa_cons (pe_int) (pa_cons (pe_un un_neg (pe_int)) (pa_cons (pe_bl) (pa_cons (pe_str) (pa_cons (pe_tup (pa_cons (pe_int) (pa_nil))) (pa_cons (pe_lst (pa_nil)) (pa_cons (pe_op op_add (pe_op op_pow (pe_int) (pe_int)) (pe_int)) (pa_nil))))))))))) (pa_nil)))) (pa_cons (pe_call (ok_pick T) (hr.mono (by decide)) rfl T.m_pick T.F_pick.kp (b_pick T) .nil pass0 (pa_cons (pv 0) (pa_cons (pe_lst (pa_cons (pe_non) (pa_cons (pe_un un_neg (pe_int)) (pa_cons (pe_bl) (pa_cons (pe_str) (pa_cons (pe_lst (pa_cons (pe_int) (pa_nil))) (pa_cons (pe_dnewK) (pa_cons (pe_op op_add (pe_op op_pow (pe_int) (pe_int)) (pe_int)) (pa_nil))))))))) (pa_nil)))) (pa_nil)))) (pg_tup rfl (pgs_cons (pg_name (i := 1) sc_refused_right.nd rfl (Or.inr rfl)) (pgs_cons (pg_name (i := 2) sc_refused_right.nd rfl (Or.inr rfl)) (pgs_nil)))))
      (pss_cons (ps_set (i := 3) sc_refused_right.nd rfl (Or.inl rfl) (pe_lst (pa_cons (pe_heard (k := 6) T B hr TB rfl rfl (LamX.lamS_by (by show LamX.lamSB (defScope s_refused_right) _ = true; decide +kernel)) rfl (fun _ _ _ _ _ => rfl) (fun A2 o2 s2 H2 E2 f2 c2 hr3 => (pe_mkR W.W.mkr ((ok_Wheel_init T).raw (b_Wheel_init T) .nil) (hr3.mono (by decide)) (passes_call (takes_of rfl rfl rfl rfl) (fun _ _ _ _ h => h)) rfl T.m_Wheel (pa_cons (pv 1) (pa_cons (pv 2) (pa_cons (pv 2) (pa_nil))))))) (pa_nil))))
      (pss_cons (ps_expr (pe_bm PySem.F.plainAttrs_list PySem.F.slot_list_append PySem.F.type_list_append mt_append (pv 3) (pa_cons (pe_heard (k := 6) T B hr TB rfl rfl (LamX.lamS_by (by show LamX.lamSB (defScope s_refused_right) _ = true; decide +kernel)) rfl (fun _ _ _ _ _ => rfl) (fun A2 o2 s2 H2 E2 f2 c2 hr3 => (pe_mkR W.W.mkr ((ok_Wheel_init T).raw (b_Wheel_init T) .nil) (hr3.mono (by decide)) (passes_call (takes_of rfl rfl rfl rfl) (fun _ _ _ _ h => h)) rfl T.m_Wheel (pa_cons (pe_int) (pa_cons (pv 2) (pa_cons (pv 1) (pa_nil))))))) (pa_nil))))
      (pss_cons (ps_expr (pe_bm PySem.F.plainAttrs_list PySem.F.slot_list_append PySem.F.type_list_append mt_append (pv 3) (pa_cons (pe_heard (k := 6) T B hr TB rfl rfl (LamX.lamS_by (by show LamX.lamSB (defScope s_refused_right) _ = true; decide +kernel)) rfl (fun _ _ _ _ _ => rfl) (fun A2 o2 s2 H2 E2 f2 c2 hr3 => (pe_mkR W.W.mkr ((ok_Wheel_init T).raw (b_Wheel_init T) .nil) (hr3.mono (by decide)) (passes_call (takes_of rfl rfl rfl rfl) (fun _ _ _ _ h => h)) rfl T.m_Wheel (pa_cons (pe_int) (pa_cons (pe_int) (pa_cons (pv 2) (pa_nil))))))) (pa_nil))))
      (pss_cons (ps_expr (pe_bm PySem.F.plainAttrs_list PySem.F.slot_list_append PySem.F.type_list_append mt_append (pv 3) (pa_cons (pe_heard (k := 6) T B hr TB rfl rfl (LamX.lamS_by (by show LamX.lamSB (defScope s_refused_right) _ = true; decide +kernel)) rfl (fun _ _ _ _ _ => rfl) (fun A2 o2 s2 H2 E2 f2 c2 hr3 => (pe_mkR W.E.mkr ((ok_Even_init HP T).raw (b_Even_init T) .nil) (hr3.mono (by decide)) (passes_call (takes_of rfl rfl rfl rfl) (fun _ _ _ _ h => h)) rfl T.m_Even (pa_cons (pv 1) (pa_cons (pv 2) (pa_nil)))))) (pa_nil))))
      (pss_cons (ps_expr (pe_bm PySem.F.plainAttrs_list PySem.F.slot_list_append PySem.F.type_list_append mt_append (pv 3) (pa_cons (pe_heard (k := 6) T B hr TB rfl rfl (LamX.lamS_by (by show LamX.lamSB (defScope s_refused_right) _ = true; decide +kernel)) rfl (fun _ _ _ _ _ => rfl) (fun A2 o2 s2 H2 E2 f2 c2 hr3 => (pe_mkR W.E.mkr ((ok_Even_init HP T).raw (b_Even_init T) .nil) (hr3.mono (by decide)) (passes_call (takes_of rfl rfl rfl rfl) (fun _ _ _ _ h => h)) rfl T.m_Even (pa_cons (pe_int) (pa_cons (pv 2) (pa_nil)))))) (pa_nil))))
      (pss_cons (ps_expr (pe_bm PySem.F.plainAttrs_list PySem.F.slot_list_append PySem.F.type_list_append mt_append (pv 3) (pa_cons (pe_heard (k := 6) T B hr TB rfl rfl (LamX.lamS_by (by show LamX.lamSB (defScope s_refused_right) _ = true; decide +kernel)) rfl (fun _ _ _ _ _ => rfl) (fun A2 o2 s2 H2 E2 f2 c2 hr3 => (pe_mkR W.X.mkr ((ok_Exact_init HP T).raw (b_Exact_init T) .nil) (hr3.mono (by decide)) (passes_call (takes_of rfl rfl rfl rfl) (fun _ _ _ _ h => h)) rfl T.m_Exact (pa_cons (pv 1) (pa_nil))))) (pa_nil))))
      (pss_cons (ps_expr (pe_bm PySem.F.plainAttrs_list PySem.F.slot_list_append PySem.F.type_list_append mt_append (pv 3) (pa_cons (pe_heard (k := 6) T B hr TB rfl rfl (LamX.lamS_by (by show LamX.lamSB (defScope s_refused_right) _ = true; decide +kernel)) rfl (fun _ _ _ _ _ => rfl) (fun A2 o2 s2 H2 E2 f2 c2 hr3 => (pe_mkR W.L.mkr ((ok_Lagging_init HP T).raw (b_Lagging_init T) .nil) (hr3.mono (by decide)) (passes_call (takes_of rfl rfl rfl rfl) (fun _ _ _ _ h => h)) rfl T.m_Lagging (pa_cons (pv 1) (pa_cons (pv 2) (pa_nil)))))) (pa_nil))))
      (pss_cons (ps_expr (pe_bm PySem.F.plainAttrs_list PySem.F.slot_list_append PySem.F.type_list_append mt_append (pv 3) (pa_cons (pe_heard (k := 6) T B hr TB rfl rfl (LamX.lamS_by (by show LamX.lamSB (defScope s_refused_right) _ = true; decide +kernel)) rfl (fun _ _ _ _ _ => rfl) (fun A2 o2 s2 H2 E2 f2 c2 hr3 => (pe_mkR W.L.mkr ((ok_Lagging_init HP T).raw (b_Lagging_init T) .nil) (hr3.mono (by decide)) (passes_call (takes_of rfl rfl rfl rfl) (fun _ _ _ _ h => h)) rfl T.m_Lagging (pa_cons (pe_int) (pa_cons (pv 2) (pa_nil)))))) (pa_nil))))
      (pss_cons (ps_expr (pe_bm PySem.F.plainAttrs_list PySem.F.slot_list_append PySem.F.type_list_append mt_append (pv 3) (pa_cons (pe_heard (k := 6) T B hr TB rfl rfl (LamX.lamS_by (by show LamX.lamSB (defScope s_refused_right) _ = true; decide +kernel)) rfl (fun _ _ _ _ _ => rfl) (fun A2 o2 s2 H2 E2 f2 c2 hr3 => (pe_mkR W.G.mkr ((ok_Grid_init HP T).raw (b_Grid_init T) .nil) (hr3.mono (by decide)) (passes_call (takes_of rfl rfl rfl rfl) (fun _ _ _ _ h => h)) rfl T.m_Grid (pa_cons (pv 1) (pa_nil))))) (pa_nil))))
      (pss_cons (ps_set (i := 4) sc_refused_right.nd rfl (Or.inl rfl) (pe_lst (pa_cons (pe_str) (pa_cons (pe_str) (pa_cons (pe_str) (pa_cons (pe_str) (pa_cons (pe_str) (pa_cons (pe_str) (pa_cons (pe_str) (pa_cons (pe_str) (pa_cons (pe_str) (pa_nil))))))))))))
      (pss_one (ps_ret (pe_cmpR (op_eqD hr.units) (pv 3) (pe_lc (own := [("_law_word", 5)]) (g := gName 5) (tt := tYes) rfl sc_refused_right.nd (pi_list (pv 4)) (blkOk_by (own := [("_law_word", 5)]) (N := ["_law_pen_here", "_law_odd", "_law_bad", "_law_heard_here", "_law_words", "_law_word"]) (sc := defScope s_refused_right) (by decide +kernel)) (fun _ _ _ _ _ => pg_name (i := 5) sc_refused_right.nd rfl (Or.inl rfl)) (fun _ _ _ _ _ => pts_nil) (fun _ _ _ _ _ => pe_tup (pa_cons (pe_str) (pa_cons (pv 5) (pa_nil))))) (nomark _)))))))))))))), ?_⟩
    have hw : CPow 10 12 := ⟨by decide, by decide, by decide⟩
    have e12 : (10 : Int) ^ Int.toNat 12 + 1 = 1000000000001 := by decide
    refine ⟨_, rfl, 2, rfl, (by show 1 ≤ sizeLine; decide), fun a0 h0 => ?_⟩
    have s0 := same_new (o := .tup [V.int 2]) h0
    have n0 : a0 ≠ p := hP.neq h0
    have hP1 := hP.same s0
    have hT1 := hT.ext s0
    have e0 : (upd H a0 (.tup [V.int 2])) a0 = some (.tup [V.int 2]) := upd_same
    generalize upd H a0 (.tup [V.int 2]) = G0 at s0 hP1 hT1 e0 ⊢
    refine ⟨(by show 0 ≤ sizeLine; decide), fun a1 h1 => ?_⟩
    have s1 := same_new (o := .lst []) h1
    have n1 : a1 ≠ p := hP1.neq h1
    have hP2 := hP1.same s1
    have hT2 := hT1.ext s1
    have e1 : (upd G0 a1 (.lst [])) a1 = some (.lst []) := upd_same
    have e0 := s1 _ _ e0
    generalize upd G0 a1 (.lst []) = G1 at s1 hP2 hT2 e0 e1 ⊢
    refine ⟨_, _, rfl, rfl, hw, _, _, rfl, rfl, ?_⟩
    refine ⟨(by show 9 ≤ sizeLine; decide), fun L hL => ?_⟩
    change spPick K [V.ref p, V.ref L] (upd G1 L (.lst [V.non, V.int 1, V.int 0, V.int (-2), V.bl true, V.str "2", V.ref a0, V.ref a1, V.int 1000000000001])) _ E0
    have nL : L ≠ p := hP2.neq hL
    have sL := same_new (o := .lst [V.non, V.int 1, V.int 0, V.int (-2), V.bl true, V.str "2", V.ref a0, V.ref a1, V.int 1000000000001]) hL
    have hPL := hP2.same sL
    have hTL := hT2.ext sL
    have e0 := core_at (p := p) (sL _ _ e0) n0 (fun _ z => nomatch z)
    have e1 := core_at (p := p) (sL _ _ e1) n1 (fun _ z => nomatch z)
    have eL : (upd G1 L (.lst [V.non, V.int 1, V.int 0, V.int (-2), V.bl true, V.str "2", V.ref a0, V.ref a1, V.int 1000000000001])) L = some (.lst [V.non, V.int 1, V.int 0, V.int (-2), V.bl true, V.str "2", V.ref a0, V.ref a1, V.int 1000000000001]) := upd_same
    generalize upd G1 L (.lst [V.non, V.int 1, V.int 0, V.int (-2), V.bl true, V.str "2", V.ref a0, V.ref a1, V.int 1000000000001]) = GL at sL hPL hTL eL e0 e1 ⊢
    refine ⟨p, L, _, n, rfl, SqL.of eL, nL, (by show 0 < 9; decide), (by show 9 < 1000000; decide), hPL, by omega, fun x H1 hx hP1' f1 => ?_⟩
    have ox : OddB (core p GL) 2 x := by
      simp only [List.mem_cons, List.not_mem_nil, or_false] at hx
      rcases hx with rfl | rfl | rfl | rfl | rfl | rfl | rfl | rfl | rfl
      · exact ⟨⟨_, .non⟩, rfl⟩
      · exact ⟨⟨_, .int _⟩, by decide⟩
      · exact ⟨⟨_, .int _⟩, by decide⟩
      · exact ⟨⟨_, .int _⟩, by decide⟩
      · exact ⟨⟨_, .bl _⟩, rfl⟩
      · exact ⟨⟨_, .str _⟩, rfl⟩
      · exact ⟨⟨_, .tup e0⟩, rfl⟩
      · exact ⟨⟨_, .lst e1⟩, rfl⟩
      · exact ⟨⟨_, .int _⟩, by decide⟩
    have hT1 : LamX.Tabs [(P1, "_law_refused_right.<locals>.<lambda>")] H1 := tabs_fr f1 hPL hTL
    have ox := ox.same (core_up (core_fr f1))
    clear e0 e1 eL sL hPL hTL s1 hP2 hT2 s0 hx
    -- the second list
    refine ⟨_, rfl, 1, rfl, (by show 1 ≤ sizeLine; decide), fun b0 g0 => ?_⟩
    have t0 := same_new (o := .lst [V.int 0]) g0
    have m0 : b0 ≠ p := hP1'.neq g0
    have hQ0 := hP1'.same t0
    have hU0 := hT1.ext t0
    have ox := ox.same (core_up (core_same (p := p) t0))
    have i0 : (upd H1 b0 (.lst [V.int 0])) b0 = some (.lst [V.int 0]) := upd_same
    generalize upd H1 b0 (.lst [V.int 0]) = F0 at t0 hQ0 hU0 ox i0 ⊢
    intro b1 g1
    have t1 := same_new (o := .dK []) g1
    have m1 : b1 ≠ p := hQ0.neq g1
    have hQ1 := hQ0.same t1
    have hU1 := hU0.ext t1
    have ox := ox.same (core_up (core_same (p := p) t1))
    have i1 : (upd F0 b1 (.dK [])) b1 = some (.dK []) := upd_same
    have i0 := t1 _ _ i0
    generalize upd F0 b1 (.dK []) = F1 at t1 hQ1 hU1 ox i0 i1 ⊢
    refine ⟨_, _, rfl, rfl, hw, _, _, rfl, rfl, ?_⟩
    refine ⟨(by show 7 ≤ sizeLine; decide), fun M hM => ?_⟩
    change spPick K [V.ref p, V.ref M] (upd F1 M (.lst [V.non, V.int (-1), V.bl true, V.str "0", V.ref b0, V.ref b1, V.int 1000000000001])) _ E0
    have nM : M ≠ p := hQ1.neq hM
    have sM := same_new (o := .lst [V.non, V.int (-1), V.bl true, V.str "0", V.ref b0, V.ref b1, V.int 1000000000001]) hM
    have hPM := hQ1.same sM
    have hTM := hU1.ext sM
    have ox := ox.same (core_up (core_same (p := p) sM))
    have i0 := core_at (p := p) (sM _ _ i0) m0 (fun _ z => nomatch z)
    have i1 := core_at (p := p) (sM _ _ i1) m1 (fun _ z => nomatch z)
    have eM : (upd F1 M (.lst [V.non, V.int (-1), V.bl true, V.str "0", V.ref b0, V.ref b1, V.int 1000000000001])) M = some (.lst [V.non, V.int (-1), V.bl true, V.str "0", V.ref b0, V.ref b1, V.int 1000000000001]) := upd_same
    generalize upd F1 M (.lst [V.non, V.int (-1), V.bl true, V.str "0", V.ref b0, V.ref b1, V.int 1000000000001]) = GM at sM hPM hTM eM ox i0 i1 ⊢
    refine ⟨p, M, _, n + 1, rfl, SqL.of eM, nM, (by show 0 < 7; decide), (by show 7 < 1000000; decide), hPM, by omega, fun y H2 hy hP2' f2 => ?_⟩
    have oy : OddB (core p GM) 0 y := by
      simp only [List.mem_cons, List.not_mem_nil, or_false] at hy
      rcases hy with rfl | rfl | rfl | rfl | rfl | rfl | rfl
      · exact ⟨⟨_, .non⟩, rfl⟩
      · exact ⟨⟨_, .int _⟩, by decide⟩
      · exact ⟨⟨_, .bl _⟩, rfl⟩
      · exact ⟨⟨_, .str _⟩, rfl⟩
      · exact ⟨⟨_, .lst i0⟩, rfl⟩
      · exact ⟨⟨_, .dic i1⟩, rfl⟩
      · exact ⟨⟨_, .int _⟩, by decide⟩
    have hT2 : LamX.Tabs [(P1, "_law_refused_right.<locals>.<lambda>")] H2 := tabs_fr f2 hPM hTM
    have ox := ox.same (core_up (core_fr f2))
    have oy := oy.same (core_up (core_fr f2))
    clear i0 i1 eM sM hPM hTM t1 hQ1 hU1 t0 hy hQ0 hU0
    refine ⟨(by show 2 ≤ sizeLine; decide), fun tp htp => ⟨_, _, rfl, SqT.of upd_same, rfl, _, _, rfl, _, _, rfl, rfl, ?_⟩⟩
    have sT := same_new (o := .tup [x, y]) htp
    have ox := ox.same (core_up (core_same (p := p) sT))
    have oy := oy.same (core_up (core_same (p := p) sT))
    have hPT := hP2'.same sT
    have hTT := hT2.ext sT
    generalize upd H2 tp (.tup [x, y]) = B0 at sT ox oy hPT hTT ⊢
    clear sT hP2' hT2 f2 hP1' hT1 f1 hP hT
    have k0 : Same (core p B0) B0 := core_sub
    refine ⟨hTT, fun A0 x0 t0 M0 m0 => ?_⟩
    have z0 : Same (core p B0) A0 := fun b o q => x0 b o (k0 b o q) (core_of q).2.1
    have ntx := (ox.same z0).1
    have nty := (oy.same z0).1
    refine ⟨_, rfl, _, rfl, _, rfl, fun q0 d0 q1 d1 ne0 => errW T W m0 q1 d1 ne0 ntx nty nty (fun  _ => rfl) (fun z _ => absurd (ox.2.symm.trans z) (by decide)) (fun z _ _ => absurd (ox.2.symm.trans z) (by decide)) (fun z _ _ => absurd (ox.2.symm.trans z) (by decide)) ?_⟩
    rintro T1 H1 - s1 e1
    refine tNil_to ⟨(by show 1 ≤ sizeLine; decide), fun L hL => ?_⟩
    have R : Rf P1 "_law_refused_right.<locals>.<lambda>" p (n + 2) B0 L ["period"] (upd H1 L (.lst [V.ref T1])) := by
      have sL : Same H1 (upd H1 L (.lst [V.ref T1])) := same_new hL
      have sA : Same A0 (upd H1 L (.lst [V.ref T1])) := s1.trans sL
      refine ⟨t0.ext sA, (hPT.extN x0).same sA, fun b o q => sA b o (z0 b o q), ?_, [T1], upd_same, rfl, fun i w e => ?_⟩
      · match q : core p B0 L with
        | Option.none => rfl
        | some o => rw [s1 _ _ (z0 _ _ q)] at hL; cases hL
      · match i, e with
        | 0, e => cases e; exact ⟨T1, rfl, sL _ _ e1⟩
    have nL : L ≠ p := ((hPT.extN x0).same s1).neq hL
    generalize upd H1 L (.lst [V.ref T1]) = J0 at R ⊢
    clear s1 e1 hL z0 ntx nty x0 t0
    obtain ⟨Ts, l1, l2, l3⟩ := R.lst
    refine ⟨_, rfl, .inl ⟨rfl, _, SqL.of l1⟩, R.tabs, fun A0 x0 t0 M0 m0 => ?_⟩
    clear l1 l2 l3
    have R := R.ext x0 t0
    have ntx := (ox.same R.kp).1
    have nty := (oy.same R.kp).1
    refine ⟨_, rfl, _, rfl, fun q0 d0 q1 d1 ne0 => errW T W m0 q1 d1 ne0 ⟨_, .int _⟩ nty ntx (fun  z => absurd z (by decide)) (fun _ _ => rfl) (fun _ z _ => absurd (oy.2.symm.trans z) (by decide)) (fun _ z _ => absurd (oy.2.symm.trans z) (by decide)) ?_⟩
    rintro T1 H1 - s1 e1
    refine tNil_to ((R.same s1).add e1 (by decide) (by decide) nL fun H2 R2 => ?_)
    clear R s1 e1 x0 t0 ntx nty m0
    have R := R2
    clear R2
    obtain ⟨Ts, l1, l2, l3⟩ := R.lst
    refine ⟨_, rfl, .inl ⟨rfl, _, SqL.of l1⟩, R.tabs, fun A0 x0 t0 M0 m0 => ?_⟩
    clear l1 l2 l3
    have R := R.ext x0 t0
    have ntx := (ox.same R.kp).1
    have nty := (oy.same R.kp).1
    refine ⟨_, rfl, fun q0 d0 q1 d1 ne0 => errW T W m0 q1 d1 ne0 ⟨_, .int _⟩ ⟨_, .int _⟩ nty (fun  z => absurd z (by decide)) (fun _ z => absurd z (by decide)) (fun _ _ _ => rfl) (fun _ _ z => absurd (oy.2.symm.trans z) (by decide)) ?_⟩
    rintro T1 H1 - s1 e1
    refine tNil_to ((R.same s1).add e1 (by decide) (by decide) nL fun H2 R2 => ?_)
    clear R s1 e1 x0 t0 ntx nty m0
    have R := R2
    clear R2
    obtain ⟨Ts, l1, l2, l3⟩ := R.lst
    refine ⟨_, rfl, .inl ⟨rfl, _, SqL.of l1⟩, R.tabs, fun A0 x0 t0 M0 m0 => ?_⟩
    clear l1 l2 l3
    have R := R.ext x0 t0
    have ntx := (ox.same R.kp).1
    have nty := (oy.same R.kp).1
    refine ⟨_, rfl, _, rfl, fun q0 d0 q1 d1 ne0 => errE T W m0 q1 d1 ne0 ntx nty (fun  _ => rfl) (fun z _ => absurd (ox.2.symm.trans z) (by decide)) (fun z _ => absurd (ox.2.symm.trans z) (by decide)) ?_⟩
    rintro T1 H1 - s1 e1
    refine tNil_to ((R.same s1).add e1 (by decide) (by decide) nL fun H2 R2 => ?_)
    clear R s1 e1 x0 t0 ntx nty m0
    have R := R2
    clear R2
    obtain ⟨Ts, l1, l2, l3⟩ := R.lst
    refine ⟨_, rfl, .inl ⟨rfl, _, SqL.of l1⟩, R.tabs, fun A0 x0 t0 M0 m0 => ?_⟩
    clear l1 l2 l3
    have R := R.ext x0 t0
    have ntx := (ox.same R.kp).1
    have nty := (oy.same R.kp).1
    refine ⟨_, rfl, fun q0 d0 q1 d1 ne0 => errE T W m0 q1 d1 ne0 ⟨_, .int _⟩ nty (fun  z => absurd z (by decide)) (fun _ _ => rfl) (fun _ z => absurd (oy.2.symm.trans z) (by decide)) ?_⟩
    rintro T1 H1 - s1 e1
    refine tNil_to ((R.same s1).add e1 (by decide) (by decide) nL fun H2 R2 => ?_)
    clear R s1 e1 x0 t0 ntx nty m0
    have R := R2
    clear R2
    obtain ⟨Ts, l1, l2, l3⟩ := R.lst
    refine ⟨_, rfl, .inl ⟨rfl, _, SqL.of l1⟩, R.tabs, fun A0 x0 t0 M0 m0 => ?_⟩
    clear l1 l2 l3
    have R := R.ext x0 t0
    have ntx := (ox.same R.kp).1
    have nty := (oy.same R.kp).1
    refine ⟨_, rfl, fun q0 d0 q1 d1 ne0 => errX T W m0 q1 d1 ne0 ntx ox.2 ?_⟩
    rintro T1 H1 - s1 e1
    refine tNil_to ((R.same s1).add e1 (by decide) (by decide) nL fun H2 R2 => ?_)
    clear R s1 e1 x0 t0 ntx nty m0
    have R := R2
    clear R2
    obtain ⟨Ts, l1, l2, l3⟩ := R.lst
    refine ⟨_, rfl, .inl ⟨rfl, _, SqL.of l1⟩, R.tabs, fun A0 x0 t0 M0 m0 => ?_⟩
    clear l1 l2 l3
    have R := R.ext x0 t0
    have ntx := (ox.same R.kp).1
    have nty := (oy.same R.kp).1
    refine ⟨_, rfl, _, rfl, fun q0 d0 q1 d1 ne0 => errL T W m0 q1 d1 ne0 ntx nty (fun  _ => rfl) (fun z _ => absurd (ox.2.symm.trans z) (by decide)) (fun z _ => absurd (ox.2.symm.trans z) (by decide)) ?_⟩
    rintro T1 H1 - s1 e1
    refine tNil_to ((R.same s1).add e1 (by decide) (by decide) nL fun H2 R2 => ?_)
    clear R s1 e1 x0 t0 ntx nty m0
    have R := R2
    clear R2
    obtain ⟨Ts, l1, l2, l3⟩ := R.lst
    refine ⟨_, rfl, .inl ⟨rfl, _, SqL.of l1⟩, R.tabs, fun A0 x0 t0 M0 m0 => ?_⟩
    clear l1 l2 l3
    have R := R.ext x0 t0
    have ntx := (ox.same R.kp).1
    have nty := (oy.same R.kp).1
    refine ⟨_, rfl, fun q0 d0 q1 d1 ne0 => errL T W m0 q1 d1 ne0 ⟨_, .int _⟩ nty (fun  z => absurd z (by decide)) (fun _ _ => rfl) (fun _ z => absurd (oy.2.symm.trans z) (by decide)) ?_⟩
    rintro T1 H1 - s1 e1
    refine tNil_to ((R.same s1).add e1 (by decide) (by decide) nL fun H2 R2 => ?_)
    clear R s1 e1 x0 t0 ntx nty m0
    have R := R2
    clear R2
    obtain ⟨Ts, l1, l2, l3⟩ := R.lst
    refine ⟨_, rfl, .inl ⟨rfl, _, SqL.of l1⟩, R.tabs, fun A0 x0 t0 M0 m0 => ?_⟩
    clear l1 l2 l3
    have R := R.ext x0 t0
    have ntx := (ox.same R.kp).1
    have nty := (oy.same R.kp).1
    refine ⟨_, rfl, fun q0 d0 q1 d1 ne0 => errG T W m0 q1 d1 ne0 ntx ox.2 ?_⟩
    rintro T1 H1 - s1 e1
    refine tNil_to ((R.same s1).add e1 (by decide) (by decide) nL fun H2 R2 => ?_)
    clear R s1 e1 x0 t0 ntx nty m0
    have R := R2
    clear R2
    refine ⟨(by show 9 ≤ sizeLine; decide), fun N hN => ?_⟩
    have R := R.same (same_new (o := .lst [V.str "period", V.str "back", V.str "ahead", V.str "period", V.str "slip", V.str "period", V.str "period", V.str "lag", V.str "period"]) hN)
    have eN : (upd H2 N (.lst [V.str "period", V.str "back", V.str "ahead", V.str "period", V.str "slip", V.str "period", V.str "period", V.str "lag", V.str "period"])) N = some (.lst (wds.map V.str)) := upd_same
    refine ⟨_, rfl, _, rfl, N, rfl, ⟨_, SqL.of eN⟩, ?_⟩
    generalize upd H2 N (.lst [V.str "period", V.str "back", V.str "ahead", V.str "period", V.str "slip", V.str "period", V.str "period", V.str "lag", V.str "period"]) = J at R eN ⊢
    refine fun D hD => lc_list (K := K) (a := N) (xs := wds.map V.str) (fun j G => Same J G ∧ PairsAt G D (wds.take j)) ⟨same_new hD, [], upd_same, rfl, fun i w e => by cases i <;> cases e⟩ (fun j G _ z => SqL.of (z.1 _ _ eN)) ?_ ?_
    · rintro j y G hy ⟨s4, hDG⟩
      rw [List.getElem?_map] at hy
      obtain ⟨wd, hw, rfl⟩ := Option.map_eq_some_iff.mp hy
      refine ⟨rfl, _, rfl, (by show 2 ≤ sizeLine; decide), fun tp htp => ?_⟩
      have sT : Same G (upd G tp (.tup [V.str "wheel", V.str wd])) := same_new htp
      refine (hDG.same sT).add (w := wd) upd_same (Nat.lt_of_le_of_lt (List.length_take_le' _ _) (by decide)) fun xs x1 x2 x3 x4 => ⟨xs, x1, x3, fun b o e => ?_, ?_⟩
      · have sb := sT _ _ (s4 _ _ e)
        have nb : b ≠ D := ne_of_none e hD
        rw [upd_ne nb]
        exact sb
      · rw [List.take_add_one, hw]
        exact x2
    · rintro G ⟨s4, hDG⟩
      rw [List.length_map, List.take_length] at hDG
      refine ⟨_, _, (R.lst.same s4).dp, hDG.dp, by decide +kernel, by decide +kernel, ?_⟩
      exact Eq.mpr (congrArg (fun c => Q (V.bl c) G) (by decide +kernel)) (k G (R.pen.same s4) (R.tabs.ext s4))

theorem mk_same {H : Hp} {x dx C : Addr} {fs : List (Str × V)} (hx : H x = Option.none) (hdx : H dx = Option.none) : Same H (upd (upd (upd H dx (.own x)) x (.ins C dx [])) x (.ins C dx fs)) := fun b o e => by
  rw [upd_ne (ne_of_none e hx), upd_ne (ne_of_none e hx), upd_ne (ne_of_none e hdx)]
  exact e
section
variable {H : Hp} {x dx : Addr} {Qv : VK} {E : XK} {p b a : Int}
theorem okW (T : Txt K mg) (W : Whl T) (hx : H x = Option.none) (hdx : H dx = Option.none) (hp : 2 ≤ p ∧ p ≤ 1000000000000) (hb : 0 ≤ b ∧ b ≤ 1000000000000) (ha : 0 ≤ a ∧ a ≤ 1000000000000) (k : ∀ H', Same H H' → WhAt H' T.a_Wheel x p b a → Qv .non H') :
    spWheelInit K T.bad.C [.ref x, .int p, .int b, .int a] (upd (upd H dx (.own x)) x (.ins T.a_Wheel dx [])) Qv E := by
  refine ⟨x, T.a_Wheel, dx, _, _, _, _, _, _, rfl, W.W.w.w, upd_same, .int _, .int _, .int _, fun z => absurd ((decide_eq_true hp).symm.trans z) (by decide), fun _ z => absurd ((decide_eq_true hb).symm.trans z) (by decide), fun _ _ z => absurd ((decide_eq_true ha).symm.trans z) (by decide), ?_⟩
  intro i j l e1 e2 e3 _ _ _ _ _ _
  cases e1; cases e2; cases e3
  exact k _ (mk_same hx hdx) ⟨dx, upd_same⟩
theorem okE (T : Txt K mg) (W : Whl T) (hx : H x = Option.none) (hdx : H dx = Option.none) (hp : 2 ≤ p ∧ p ≤ 1000000000000) (hb : 0 ≤ b ∧ b ≤ 1000000000000) (k : ∀ H', Same H H' → WhAt H' T.a_Even x p b b → Qv .non H') :
    spEvenInit K T.bad.C T.a_Even T.a_Wheel_init [.ref x, .int p, .int b] (upd (upd H dx (.own x)) x (.ins T.a_Even dx [])) Qv E := by
  refine ⟨x, T.a_Even, dx, _, _, _, _, rfl, W.E.w.w, W.sE, upd_same, .int _, .int _, fun z => absurd ((decide_eq_true hp).symm.trans z) (by decide), fun _ z => absurd ((decide_eq_true hb).symm.trans z) (by decide), ?_⟩
  intro i j e1 e2 _ _ _ _
  cases e1; cases e2
  exact k _ (mk_same hx hdx) ⟨dx, upd_same⟩
theorem okL (T : Txt K mg) (W : Whl T) (hx : H x = Option.none) (hdx : H dx = Option.none) (hp : 2 ≤ p ∧ p ≤ 1000000000000) (hb : 0 ≤ b ∧ b ≤ 1000000000000) (k : ∀ H', Same H H' → WhAt H' T.a_Lagging x p b 0 → Qv .non H') :
    spLaggingInit K T.bad.C T.a_Lagging T.a_Wheel_init [.ref x, .int p, .int b] (upd (upd H dx (.own x)) x (.ins T.a_Lagging dx [])) Qv E := by
  refine ⟨x, T.a_Lagging, dx, _, _, _, _, rfl, W.L.w.w, W.sL, upd_same, .int _, .int _, fun z => absurd ((decide_eq_true hp).symm.trans z) (by decide), fun _ z => absurd ((decide_eq_true hb).symm.trans z) (by decide), ?_⟩
  intro i j e1 e2 _ _ _ _
  cases e1; cases e2
  exact k _ (mk_same hx hdx) ⟨dx, upd_same⟩
theorem okX (T : Txt K mg) (W : Whl T) (hx : H x = Option.none) (hdx : H dx = Option.none) (hp : 2 ≤ p ∧ p ≤ 1000000000000) (k : ∀ H', Same H H' → WhAt H' T.a_Exact x p 0 0 → Qv .non H') :
    spOneInit K T.bad.C T.a_Exact T.a_Wheel_init [.ref x, .int p] (upd (upd H dx (.own x)) x (.ins T.a_Exact dx [])) Qv E := by
  refine ⟨x, T.a_Exact, dx, _, _, rfl, W.X.w.w, W.sX, upd_same, .int _, fun z => absurd ((decide_eq_true hp).symm.trans z) (by decide), ?_⟩
  intro i e1 _ _
  cases e1
  exact k _ (mk_same hx hdx) ⟨dx, upd_same⟩
theorem okG (T : Txt K mg) (W : Whl T) (hx : H x = Option.none) (hdx : H dx = Option.none) (hp : 2 ≤ p ∧ p ≤ 1000000000000) (k : ∀ H', Same H H' → WhAt H' T.a_Grid x p 0 0 → Qv .non H') :
    spOneInit K T.bad.C T.a_Grid T.a_Wheel_init [.ref x, .int p] (upd (upd H dx (.own x)) x (.ins T.a_Grid dx [])) Qv E := by
  refine ⟨x, T.a_Grid, dx, _, _, rfl, W.G.w.w, W.sG, upd_same, .int _, fun z => absurd ((decide_eq_true hp).symm.trans z) (by decide), ?_⟩
  intro i e1 _ _
  cases e1
  exact k _ (mk_same hx hdx) ⟨dx, upd_same⟩
end
/-- v is a wheel, u the tuple of what it must tell: period, back, ahead, trust; n of the four kinds below -/
def RowP (T : Txt K mg) (H : Hp) (v u : V) (p b a : Int) (tr : Bool) (n : Nat) : Prop := ∃ (x C f y : Addr) (e ex l g : Bool), v = .ref x ∧ WhC T C f tr e ex l g ∧ C ∈ [T.a_Wheel, T.a_Even, T.a_Exact, T.a_Lagging, T.a_Grid] ∧ WhAt H C x p b a ∧ u = .ref y ∧ H y = some (.tup [.int p, .int b, .int a, .bl tr]) ∧
  (0 ≤ p ∧ p ≤ 1000000000000 ∧ 0 ≤ b ∧ b ≤ 1000000000000 ∧ 0 ≤ a ∧ a ≤ 1000000000000) ∧ [e, ex, l, g].count true = n
theorem RowP.same {T : Txt K mg} {H H' : Hp} {v u : V} {p b a : Int} {tr : Bool} {n : Nat} (s : Same H H') (h : RowP T H v u p b a tr n) : RowP T H' v u p b a tr n := by
  obtain ⟨x, C, f, y, e, ex, l, g, h1, h2, h3, h4, h5, h6, h7⟩ := h
  exact ⟨x, C, f, y, e, ex, l, g, h1, h2, h3, h4.same s, h5, s _ _ h6, h7⟩
theorem weq (T : Txt K mg) (W : Whl T) {H : Hp} {x x' C C' f f' : Addr} {p b a p' b' a' : Int} {tr e ex l g tr' e' ex' l' g' : Bool} {Q : VK} (w : WhC T C f tr e ex l g) (w' : WhC T C' f' tr' e' ex' l' g')
    (hC : C ∈ [T.a_Wheel, T.a_Even, T.a_Exact, T.a_Lagging, T.a_Grid]) (hC' : C' ∈ [T.a_Wheel, T.a_Even, T.a_Exact, T.a_Lagging, T.a_Grid]) (h : WhAt H C x p b a) (h' : WhAt H C' x' p' b' a')
    (k : Q (.bl (decide (tr = tr' ∧ p = p' ∧ b = b' ∧ a = a'))) H) : rEqW K T.a_Wheel_eq (spWheelEq T) E0 (.ref x) (.ref x') H Q := by
  obtain ⟨dx, hx⟩ := id h
  obtain ⟨dy, hy⟩ := id h'
  refine ⟨x, C, dx, _, rfl, hx, ?_⟩
  rcases W.ord C hC C' hC' with o | ⟨o1, o2⟩
  · exact .inl ⟨.ref C', w.eq, w'.k.ty _ x' dy _ hy, o, x, C, p, b, a, tr, w.w, h, .inl ⟨x', C', p', b', a', tr', _, _, _, _, rfl, w'.w, w'.k, h', _, rfl, k⟩⟩
  · refine .inr ⟨x', C', dy, _, rfl, hy, w'.eq, o1, o2, x', C', p', b', a', tr', w'.w, h', .inl ⟨x, C, p, b, a, tr, _, _, _, _, rfl, w.w, w.k, h, _, rfl, ?_⟩⟩
    refine Eq.mpr (congrArg (fun c => Q (V.bl c) H) ?_) k
    rw [decide_eq_decide]
    exact ⟨fun z => ⟨z.1.symm, z.2.1.symm, z.2.2.1.symm, z.2.2.2.symm⟩, fun z => ⟨z.1.symm, z.2.1.symm, z.2.2.1.symm, z.2.2.2.symm⟩⟩
theorem shaped4 (p b a : Int) (tr : Bool) : SeqAt.shaped (.tuple [.int p, .int b, .int a, .bool tr]) = true := by
  simp [SeqAt.shaped, PyData.canLay0, PyData.canLayAll0, PyData.depth, PyData.depthAll]
theorem eqv4 (p b a p' b' a' : Int) (tr tr' : Bool) : PyData.eqv (.tuple [.int p, .int b, .int a, .bool tr]) (.tuple [.int p', .int b', .int a', .bool tr']) = decide (tr = tr' ∧ p = p' ∧ b = b' ∧ a = a') := by
  simp only [PyData.eqv, PyData.eqvAll, Bool.and_true]
  rw [Bool.eq_iff_iff]
  simp only [Bool.and_eq_true, beq_iff_eq, decide_eq_true_eq]
  exact ⟨fun z => ⟨z.2.2.2, z.1, z.2.1, z.2.2.1⟩, fun z => ⟨z.2.1, z.2.2.1, z.2.2.2, z.1⟩⟩
theorem tC1_to {v : V} {σ : L2.St} {H : Hp} {Q : List V → Hp → Prop} (h : Q [v] H) : tCons (tC v) tNil σ H Q := h
theorem cnt4 (e x l g : Bool) : (([PyData.bool e, .bool x, .bool l, .bool g].countP fun z => PyData.eqv z (.bool true) : Nat)) = [e, x, l, g].count true := by
  cases e <;> cases x <;> cases l <;> cases g <;> decide +kernel
def spMade : Sp := fun vs H Q _ => ∃ (p : Addr) (n : Nat), vs = [.ref p] ∧ Pen H p n ∧ n < 80000 ∧ ∀ H', Pen H' p (n + 6) → Fr p H H' → Q (.bl true) H'
theorem ok_made_right (HP : PrF lawFile P) (T : Txt K mg) (W : Whl T) : FnG P w K mg base CX0 8 T.a_made_right spMade := by
  refine FnG.mk0 T.F_made_right sc_made_right (b_made_right T) (fun vs H Q E h => ?_) (fun cdv A outer s H vs Q E gu hr h => ?_)
  · obtain ⟨p, n, rfl, _⟩ := h; rfl
  · obtain ⟨pn, n, rfl, hP, hn, k⟩ := h
    refine ⟨_, pss_cons (ps_par3 (i := 1) (j := 2) (l := 3) (by rfl) sc_made_right.nd rfl rfl rfl (by decide) (by decide) (by decide) rfl rfl rfl (pa_cons (pe_call (ok_part T) (hr.mono (by decide)) rfl T.m_part T.F_part.kp (b_part T) .nil pass0 (pa_cons (pv 0) (pa_cons (pe_int) (pa_nil)))) (pa_cons (pe_call (ok_part T) (hr.mono (by decide)) rfl T.m_part T.F_part.kp (b_part T) .nil pass0 (pa_cons (pv 0) (pa_cons (pe_int) (pa_nil)))) (pa_cons (pe_call (ok_part T) (hr.mono (by decide)) rfl T.m_part T.F_part.kp (b_part T) .nil pass0 (pa_cons (pv 0) (pa_cons (pe_int) (pa_nil)))) (pa_nil)))) (by rfl))
      (pss_cons (ps_set (i := 4) sc_made_right.nd rfl (Or.inr rfl) (pe_lst (pa_cons (pe_makeK0 W.W.mkr (ok_Wheel_init T) (hr.mono (by decide)) rfl T.m_Wheel (kb_Wheel T) passL (pk_cons (pv 3) (pk_cons (pv 1) (pk_cons (pv 2) (pk_nil))))) (pa_cons (pe_makeK0 W.E.mkr (ok_Even_init HP T) (hr.mono (by decide)) rfl T.m_Even (kb_Even T) passL (pk_cons (pv 1) (pk_cons (pv 2) (pk_nil)))) (pa_cons (pe_makeK0 W.X.mkr (ok_Exact_init HP T) (hr.mono (by decide)) rfl T.m_Exact (kb_Exact T) passL (pk_cons (pv 1) (pk_nil))) (pa_nil))))))
      (pss_cons (ps_set (i := 4) sc_made_right.nd rfl (Or.inr rfl) (pe_op op_cat (pv 4) (pe_lst (pa_cons (pe_makeK0 W.L.mkr (ok_Lagging_init HP T) (hr.mono (by decide)) rfl T.m_Lagging (kb_Lagging T) passL (pk_cons (pv 2) (pk_cons (pv 1) (pk_nil)))) (pa_cons (pe_makeK0 W.G.mkr (ok_Grid_init HP T) (hr.mono (by decide)) rfl T.m_Grid (kb_Grid T) passL (pk_cons (pv 1) (pk_nil))) (pa_nil))))))
      (pss_cons (ps_set (i := 5) sc_made_right.nd rfl (Or.inl rfl) (pe_lst (pa_cons (pe_tup (pa_cons (pv 1) (pa_cons (pv 2) (pa_cons (pv 3) (pa_cons (pe_bl) (pa_nil)))))) (pa_cons (pe_tup (pa_cons (pv 1) (pa_cons (pv 2) (pa_cons (pv 2) (pa_cons (pe_bl) (pa_nil)))))) (pa_cons (pe_tup (pa_cons (pv 1) (pa_cons (pe_int) (pa_cons (pe_int) (pa_cons (pe_bl) (pa_nil)))))) (pa_cons (pe_tup (pa_cons (pv 1) (pa_cons (pv 2) (pa_cons (pe_int) (pa_cons (pe_bl) (pa_nil)))))) (pa_nil)))))))
      (pss_cons (ps_expr (pe_bm PySem.F.plainAttrs_list PySem.F.slot_list_append PySem.F.type_list_append mt_append (pv 5) (pa_cons (pe_tup (pa_cons (pv 1) (pa_cons (pe_int) (pa_cons (pe_int) (pa_cons (pe_bl) (pa_nil)))))) (pa_nil))))
      (pss_cons (ps_for PassesOwn.never rfl (RZ.pi_zipA (by rfl) T.n_zip (pa_cons (pv 4) (pa_cons (pv 5) (pa_nil)))) (pg_tup rfl (pgs_cons (pg_name (i := 6) sc_made_right.nd rfl (Or.inr rfl)) (pgs_cons (pg_name (i := 7) sc_made_right.nd rfl (Or.inr rfl)) (pgs_nil)))) (pss_cons (ps_if (pt_not (pt_val (pe_callG gu (ok_told_right T) (hr.mono (by decide)) T.F_told_right.kp rfl T.m_told_right pass0 (pa_cons (pv 6) (pa_cons (pe_ix ix_tup (pv 7) (pe_int) (fun _ _ => rfl)) (pa_cons (pe_ix ix_tup (pv 7) (pe_int) (fun _ _ => rfl)) (pa_cons (pe_ix ix_tup (pv 7) (pe_int) (fun _ _ => rfl)) (pa_cons (pe_ix ix_tup (pv 7) (pe_int) (fun _ _ => rfl)) (pa_nil))))))))) (pss_one (ps_ret (pe_bl))) (pss_nil))
      (pss_one (ps_if (pt_cmpR (op_neD hr.units) (pe_lc (own := [("_law_one", 8), ("_law_other", 9)]) rfl sc_made_right.nd (RZ.pi_zipA (by rfl) T.n_zip (pa_cons (pv 4) (pa_cons (pv 5) (pa_nil)))) (blkOk_by (own := [("_law_one", 8), ("_law_other", 9)]) (N := ["_law_pen_here", "_law_period", "_law_back", "_law_ahead", "_law_some", "_law_dues", "_law_made", "_law_due", "_law_one", "_law_other", "_law_odd"]) (sc := defScope s_made_right) (by decide +kernel)) (fun _ _ _ _ _ => pg_tup2 K 2 (by rfl) (by rfl) (pgs_cons (pg_name (i := 8) sc_made_right.nd rfl (Or.inl rfl)) (pgs_cons (pg_name (i := 9) sc_made_right.nd rfl (Or.inl rfl)) (pgs_nil)))) (fun _ _ _ _ _ => pts_one (pt_cmpR op_ne (pe_cmpR (op_eqW K (by rfl) (ok_Wheel_eq T) (hr.mono (by decide)) (b_Wheel_eq T) pass0 W.fn) (pv 8) (pv 6) (nomark _)) (pe_cmpR (op_eqD2 K (by rfl) hr.units) (pv 9) (pv 7) (nomark _)) (nomark _))) (fun _ _ _ _ _ => pv 8)) (pe_lst (pa_nil)) (nomark _)) (pss_one (ps_ret (pe_bl))) (pss_nil)))))
      (pss_cons (ps_if (PW.pt (pw_or (pt_cmpR (op_neD hr.units) (pe_lc (own := [("_law_made", 6)]) (g := gName 6) (tt := tYes) rfl sc_made_right.nd (pi_list (pv 4)) (blkOk_by (own := [("_law_made", 6)]) (N := ["_law_pen_here", "_law_period", "_law_back", "_law_ahead", "_law_some", "_law_dues", "_law_made", "_law_due", "_law_one", "_law_other", "_law_odd"]) (sc := defScope s_made_right) (by decide +kernel)) (fun _ _ _ _ _ => pg_name (i := 6) sc_made_right.nd rfl (Or.inl rfl)) (fun _ _ _ _ _ => pts_nil) (fun _ _ _ _ _ => pe_bmK K (by rfl) PySem.F.plainAttrs_list PySem.F.slot_list_count PySem.F.type_list_count (mt_countD2 K (by rfl) hr.units) (pe_call (ok_classes T) (hr.mono (by decide)) rfl T.m_classes T.F_classes.kp (b_classes T) .nil pass0 (pa_cons (pv 6) (pa_nil))) (pa_cons (pe_bl) (pa_nil)))) (pe_lst (pa_cons (pe_int) (pa_cons (pe_int) (pa_cons (pe_int) (pa_cons (pe_int) (pa_cons (pe_int) (pa_nil))))))) (nomark _)) (pw_or1 (pt_cmpR (op_neO (ok_Wheel_eq T) (hr.mono (by decide)) (b_Wheel_eq T) pass0 W.mro_o W.ne W.W.eq W.fn) (pe_mkR W.W.mkr ((ok_Wheel_init T).raw (b_Wheel_init T) .nil) (hr.mono (by decide)) passL rfl T.m_Wheel (pa_cons (pv 1) (pa_cons (pv 2) (pa_cons (pv 3) (pa_nil))))) (pe_ix ix_list (pv 4) (pe_int) (fun _ _ => rfl)) (nomark _))))) (pss_one (ps_ret (pe_bl))) (pss_nil))
      (pss_one (ps_ret (pe_cmpR (op_eqD hr.units) (pe_lc (own := [("_law_odd", 10)]) (g := gName 10) rfl sc_made_right.nd (pi_list (pe_lst (pa_cons (pe_non) (pa_cons (pv 1) (pa_cons (pe_tup (pa_cons (pv 1) (pa_cons (pv 2) (pa_cons (pv 3) (pa_nil))))) (pa_cons (pe_callTy (call_strO (ok_Wheel_str T) (hr.mono (by decide)) (b_Wheel_str T) pass0 W.str W.fnS) (by rfl) T.n_str (by decide +kernel) (pa_cons (pe_ix ix_list (pv 4) (pe_int) (fun _ _ => rfl)) (pa_nil))) (pa_nil))))))) (blkOk_by (own := [("_law_odd", 10)]) (N := ["_law_pen_here", "_law_period", "_law_back", "_law_ahead", "_law_some", "_law_dues", "_law_made", "_law_due", "_law_one", "_law_other", "_law_odd"]) (sc := defScope s_made_right) (by decide +kernel)) (fun _ _ _ _ _ => pg_name (i := 10) sc_made_right.nd rfl (Or.inl rfl)) (fun _ _ _ _ _ => pts_one (pt_cmpR (op_eqW K (by rfl) (ok_Wheel_eq T) (hr.mono (by decide)) (b_Wheel_eq T) pass0 W.fn) (pe_ix (ix_list2 K (by rfl)) (pv 4) (pe_int) (fun _ _ => rfl)) (pv 10) (nomark _))) (fun _ _ _ _ _ => pv 10)) (pe_lst (pa_nil)) (nomark _)))))))))), ?_⟩
    refine ⟨_, rfl, pn, 2, n, rfl, by decide, by decide, hP, by omega, fun p H1 p1 p2 hP1 f1 => ?_⟩
    refine ⟨_, rfl, pn, 0, n + 2, rfl, by decide, by decide, hP1, by omega, fun b H2 b1 b2 hP2 f2 => ?_⟩
    refine ⟨_, rfl, pn, 0, n + 2 + 2, rfl, by decide, by decide, hP2, by omega, fun a H3 a1 a2 hP3 f3 => ⟨_, _, _, rfl, ?_⟩⟩
    have F3 := (f1.trans f2).trans f3
    clear f1 f2 f3 hP hP1 hP2
    refine ⟨_, rfl, _, rfl, _, rfl, rfl, rfl, fun x0 d0 hx0 hd0 _ => okW T W hx0 hd0 ⟨p1, p2⟩ ⟨b1, b2⟩ ⟨a1, a2⟩ fun G0 s0 w0 => ⟨rfl, ?_⟩⟩
    refine ⟨_, rfl, _, rfl, rfl, rfl, fun x1 d1 hx1 hd1 _ => okE T W hx1 hd1 ⟨p1, p2⟩ ⟨b1, b2⟩ fun G1 s1 w1 => ⟨rfl, ?_⟩⟩
    refine ⟨_, rfl, rfl, rfl, fun x2 d2 hx2 hd2 _ => okX T W hx2 hd2 ⟨p1, p2⟩ fun G2 s2 w2 => ⟨rfl, ?_⟩⟩
    refine tNil_to ⟨(by show 3 ≤ sizeLine; decide), fun L0 hL0 => ?_⟩
    have sL0 := same_new (o := .lst [V.ref x0, V.ref x1, V.ref x2]) hL0
    have eL0 : (upd G2 L0 (.lst [V.ref x0, V.ref x1, V.ref x2])) L0 = some (.lst [V.ref x0, V.ref x1, V.ref x2]) := upd_same
    generalize upd G2 L0 (.lst [V.ref x0, V.ref x1, V.ref x2]) = G3 at sL0 eL0 ⊢
    refine ⟨_, rfl, _, rfl, _, rfl, rfl, rfl, fun x3 d3 hx3 hd3 _ => okL T W hx3 hd3 ⟨p1, p2⟩ ⟨b1, b2⟩ fun G4 s4 w3 => ⟨rfl, ?_⟩⟩
    refine ⟨_, rfl, rfl, rfl, fun x4 d4 hx4 hd4 _ => okG T W hx4 hd4 ⟨p1, p2⟩ fun G5 s5 w4 => ⟨rfl, ?_⟩⟩
    refine tNil_to ⟨(by show 2 ≤ sizeLine; decide), fun L1 hL1 => ?_⟩
    have sL1 := same_new (o := .lst [V.ref x3, V.ref x4]) hL1
    have eL1 : (upd G5 L1 (.lst [V.ref x3, V.ref x4])) L1 = some (.lst [V.ref x3, V.ref x4]) := upd_same
    generalize upd G5 L1 (.lst [V.ref x3, V.ref x4]) = G6 at sL1 eL1 ⊢
    refine ⟨L0, L1, _, _, rfl, rfl, sL1 _ _ (s5 _ _ (s4 _ _ eL0)), eL1, (by show 5 ≤ sizeLine; decide), fun L hL => ?_⟩
    have sL := same_new (o := .lst ([V.ref x0, V.ref x1, V.ref x2] ++ [V.ref x3, V.ref x4])) hL
    have eL : (upd G6 L (.lst ([V.ref x0, V.ref x1, V.ref x2] ++ [V.ref x3, V.ref x4]))) L = some (.lst [V.ref x0, V.ref x1, V.ref x2, V.ref x3, V.ref x4]) := upd_same
    generalize upd G6 L (.lst ([V.ref x0, V.ref x1, V.ref x2] ++ [V.ref x3, V.ref x4])) = G7 at sL eL ⊢
    have w4 := w4.same (sL1.trans sL)
    have w3 := w3.same (s5.trans (sL1.trans sL))
    have sx := sL0.trans (s4.trans (s5.trans (sL1.trans sL)))
    have w2 := w2.same sx
    have w1 := w1.same (s2.trans sx)
    have w0 := w0.same (s1.trans (s2.trans sx))
    have s37 : Same H3 G7 := s0.trans (s1.trans (s2.trans sx))
    clear sx sL sL1 s5 s4 sL0 s2 s1 s0 eL0 eL1 hL hL1 hL0 hx0 hd0 hx1 hd1 hx2 hd2 hx3 hd3 hx4 hd4
    refine ⟨_, rfl, _, rfl, _, rfl, (by show 4 ≤ sizeLine; decide), fun t0 ht0 => ?_⟩
    have y0 := same_new (o := .tup [V.int p, V.int b, V.int a, V.bl false]) ht0
    have e0 : (upd G7 t0 (.tup [V.int p, V.int b, V.int a, V.bl false])) t0 = some (.tup [V.int p, V.int b, V.int a, V.bl false]) := upd_same
    generalize upd G7 t0 (.tup [V.int p, V.int b, V.int a, V.bl false]) = J0 at y0 e0 ⊢
    refine ⟨_, rfl, _, rfl, _, rfl, (by show 4 ≤ sizeLine; decide), fun t1 ht1 => ?_⟩
    have y1 := same_new (o := .tup [V.int p, V.int b, V.int b, V.bl false]) ht1
    have e1 : (upd J0 t1 (.tup [V.int p, V.int b, V.int b, V.bl false])) t1 = some (.tup [V.int p, V.int b, V.int b, V.bl false]) := upd_same
    generalize upd J0 t1 (.tup [V.int p, V.int b, V.int b, V.bl false]) = J1 at y1 e1 ⊢
    refine ⟨_, rfl, (by show 4 ≤ sizeLine; decide), fun t2 ht2 => ?_⟩
    have y2 := same_new (o := .tup [V.int p, V.int 0, V.int 0, V.bl false]) ht2
    have e2 : (upd J1 t2 (.tup [V.int p, V.int 0, V.int 0, V.bl false])) t2 = some (.tup [V.int p, V.int 0, V.int 0, V.bl false]) := upd_same
    generalize upd J1 t2 (.tup [V.int p, V.int 0, V.int 0, V.bl false]) = J2 at y2 e2 ⊢
    refine ⟨_, rfl, _, rfl, (by show 4 ≤ sizeLine; decide), fun t3 ht3 => ?_⟩
    have y3 := same_new (o := .tup [V.int p, V.int b, V.int 0, V.bl false]) ht3
    have e3 : (upd J2 t3 (.tup [V.int p, V.int b, V.int 0, V.bl false])) t3 = some (.tup [V.int p, V.int b, V.int 0, V.bl false]) := upd_same
    generalize upd J2 t3 (.tup [V.int p, V.int b, V.int 0, V.bl false]) = J3 at y3 e3 ⊢
    refine ⟨(by show 4 ≤ sizeLine; decide), fun D hD => ?_⟩
    have z0 := same_new (o := .lst [V.ref t0, V.ref t1, V.ref t2, V.ref t3]) hD
    have eD : (upd J3 D (.lst [V.ref t0, V.ref t1, V.ref t2, V.ref t3])) D = some (.lst [V.ref t0, V.ref t1, V.ref t2, V.ref t3]) := upd_same
    generalize upd J3 D (.lst [V.ref t0, V.ref t1, V.ref t2, V.ref t3]) = J4 at z0 eD ⊢
    refine ⟨_, rfl, .inl ⟨rfl, _, SqL.of eD⟩, _, rfl, (by show 4 ≤ sizeLine; decide), fun t4 ht4 => ?_⟩
    have z1 := same_new (o := .tup [V.int p, V.int 0, V.int 0, V.bl true]) ht4
    have e4 : (upd J4 t4 (.tup [V.int p, V.int 0, V.int 0, V.bl true])) t4 = some (.tup [V.int p, V.int 0, V.int 0, V.bl true]) := upd_same
    generalize upd J4 t4 (.tup [V.int p, V.int 0, V.int 0, V.bl true]) = J5 at z1 e4 ⊢
    have eD := z1 _ _ eD
    have z : Same J3 (upd J5 D (.lst ([V.ref t0, V.ref t1, V.ref t2, V.ref t3] ++ [V.ref t4]))) := fun b o e => by
      rw [upd_ne (ne_of_none e hD)]
      exact z1 _ _ (z0 _ _ e)
    refine ⟨D, _, _, rfl, rfl, eD, (by show 4 < sizeLine; decide), ?_⟩
    have e4 : (upd J5 D (.lst ([V.ref t0, V.ref t1, V.ref t2, V.ref t3] ++ [V.ref t4]))) t4 = _ := (upd_ne (fun q => by rw [q, eD] at e4; cases e4)).trans e4
    have eD : (upd J5 D (.lst ([V.ref t0, V.ref t1, V.ref t2, V.ref t3] ++ [V.ref t4]))) D = some (.lst [V.ref t0, V.ref t1, V.ref t2, V.ref t3, V.ref t4]) := upd_same
    generalize upd J5 D (.lst ([V.ref t0, V.ref t1, V.ref t2, V.ref t3] ++ [V.ref t4])) = J at e4 eD z ⊢
    have e3 := z _ _ e3
    have e2 := z _ _ (y3 _ _ e2)
    have e1 := z _ _ (y3 _ _ (y2 _ _ e1))
    have e0 := z _ _ (y3 _ _ (y2 _ _ (y1 _ _ e0)))
    have s7 : Same G7 J := y0.trans (y1.trans (y2.trans (y3.trans z)))
    clear z z0 z1 y0 y1 y2 y3 ht0 ht1 ht2 ht3 ht4 hD
    have eL := s7 _ _ eL
    have P3 := hP3.same (s37.trans s7)
    have F3 := F3.trans (same_fr (s37.trans s7))
    have R0 : RowP T J (.ref x0) (.ref t0) p b a false 0 := ⟨x0, _, _, t0, _, _, _, _, rfl, W.W, by simp, w0.same s7, rfl, e0, by omega, by decide⟩
    have R1 : RowP T J (.ref x1) (.ref t1) p b b false 1 := ⟨x1, _, _, t1, _, _, _, _, rfl, W.E, by simp, w1.same s7, rfl, e1, by omega, by decide⟩
    have R2 : RowP T J (.ref x2) (.ref t2) p 0 0 false 1 := ⟨x2, _, _, t2, _, _, _, _, rfl, W.X, by simp, w2.same s7, rfl, e2, by omega, by decide⟩
    have R3 : RowP T J (.ref x3) (.ref t3) p b 0 false 1 := ⟨x3, _, _, t3, _, _, _, _, rfl, W.L, by simp, w3.same s7, rfl, e3, by omega, by decide⟩
    have R4 : RowP T J (.ref x4) (.ref t4) p 0 0 true 1 := ⟨x4, _, _, t4, _, _, _, _, rfl, W.G, by simp, w4.same s7, rfl, e4, by omega, by decide⟩
    have w0 := w0.same s7
    clear s7 s37 w1 w2 w3 w4 e0 e1 e2 e3 e4 hP3
    have RR : ∀ (i : Nat) (v u : V), [V.ref x0, V.ref x1, V.ref x2, V.ref x3, V.ref x4][i]? = some v → [V.ref t0, V.ref t1, V.ref t2, V.ref t3, V.ref t4][i]? = some u → ∃ (p' b' a' : Int) (tr : Bool) (n : Nat), RowP T J v u p' b' a' tr n ∧ [0, 1, 1, 1, 1][i]? = some n := fun i v u hv hu => by
      match i, hv, hu with
      | 0, hv, hu => cases hv; cases hu; exact ⟨_, _, _, _, _, R0, rfl⟩
      | 1, hv, hu => cases hv; cases hu; exact ⟨_, _, _, _, _, R1, rfl⟩
      | 2, hv, hu => cases hv; cases hu; exact ⟨_, _, _, _, _, R2, rfl⟩
      | 3, hv, hu => cases hv; cases hu; exact ⟨_, _, _, _, _, R3, rfl⟩
      | 4, hv, hu => cases hv; cases hu; exact ⟨_, _, _, _, _, R4, rfl⟩
    clear R0 R1 R2 R3 R4
    refine ⟨_, rfl, _, rfl, L, D, [V.ref x0, V.ref x1, V.ref x2, V.ref x3, V.ref x4], [V.ref t0, V.ref t1, V.ref t2, V.ref t3, V.ref t4], rfl, .inl ⟨SqL.of eL, SqL.of eD, RZ.for_zipL (xs := [V.ref x0, V.ref x1, V.ref x2, V.ref x3, V.ref x4]) (ys := [V.ref t0, V.ref t1, V.ref t2, V.ref t3, V.ref t4]) rfl (fun j σ G => Same J G ∧ ∃ v6 v7 : Option V, σ = [some (.ref pn), some (.int p), some (.int b), some (.int a), some (.ref L), some (.ref D), v6, v7, Option.none, Option.none, Option.none]) ⟨fun _ _ z => z, _, _, rfl⟩ (fun i σ G z => ⟨SqL.of (z.1 _ _ eL), SqL.of (z.1 _ _ eD)⟩) ?_ ?_⟩⟩
    · rintro i v u tz σ G hv hu ⟨sG, v6, v7, rfl⟩ hz
      obtain ⟨p', b', a', tr, n', Rw, _⟩ := RR i v u hv hu
      have sz := same_new (o := .tup [v, u]) hz
      have Rw2 := Rw.same (sG.trans sz)
      obtain ⟨x, C, f, y, e, ex, l, g, rfl, wc, hC, wat, rfl, hy, hb, hn'⟩ := Rw2
      refine ⟨tz, _, rfl, SqT.of upd_same, rfl, _, _, rfl, _, _, rfl, rfl, ?_⟩
      have sG := sG.trans sz
      generalize upd G tz (.tup [V.ref x, V.ref y]) = G2 at sG hy wat ⊢
      clear sz hz
      refine ⟨_, rfl, _, rfl, y, _, _, _, rfl, rfl, SqT.of hy, rfl, _, rfl, y, _, _, _, rfl, rfl, SqT.of hy, rfl, _, rfl, y, _, _, _, rfl, rfl, SqT.of hy, rfl, _, rfl, y, _, _, _, rfl, rfl, SqT.of hy, rfl, ?_⟩
      refine tNil_to ⟨x, C, p', b', a', tr, e, ex, l, g, rfl, wc.w, wc.k, wat, hb, fun G3 s3 => ⟨true, rfl, iteF ?_⟩⟩
      have sG := sG.trans s3
      have wat := wat.same s3
      have hy := s3 _ _ hy
      clear s3
      refine ⟨_, rfl, _, rfl, L, D, [V.ref x0, V.ref x1, V.ref x2, V.ref x3, V.ref x4], [V.ref t0, V.ref t1, V.ref t2, V.ref t3, V.ref t4], rfl, .inl ⟨SqL.of (sG _ _ eL), SqL.of (sG _ _ eD), fun M hM => lc_zipL (xs := [V.ref x0, V.ref x1, V.ref x2, V.ref x3, V.ref x4]) (ys := [V.ref t0, V.ref t1, V.ref t2, V.ref t3, V.ref t4]) rfl (fun j G4 => Same G3 G4 ∧ G4 M = some (.lst [])) ⟨same_new hM, upd_same⟩ (fun i G4 z => ⟨SqL.of (z.1 _ _ (sG _ _ eL)), SqL.of (z.1 _ _ (sG _ _ eD))⟩) ?_ ?_⟩⟩
      · rintro j v2 u2 G4 tz2 hv2 hu2 ⟨s4, hM4⟩ hz2
        obtain ⟨p2, b2, a2, tr2, n2, Rw2, _⟩ := RR j v2 u2 hv2 hu2
        have sz2 := same_new (o := .tup [v2, u2]) hz2
        obtain ⟨x', C', f', y', e', ex', l', g', rfl, wc', hC', wat', rfl, hy', _, _⟩ := Rw2.same (sG.trans (s4.trans sz2))
        refine ⟨tz2, _, rfl, SqT.of upd_same, rfl, _, _, rfl, _, _, rfl, rfl, rfl, ?_⟩
        have wat4 := wat.same (s4.trans sz2)
        have hy4 := sz2 _ _ (s4 _ _ hy)
        have hM5 := sz2 _ _ hM4
        have s5 := s4.trans sz2
        generalize upd G4 tz2 (.tup [V.ref x', V.ref y']) = G5 at s5 wat' hy' wat4 hy4 hM5 ⊢
        refine ⟨_, rfl, _, rfl, weq T W wc' wc hC' hC wat' wat4 ⟨_, rfl, _, rfl, _, _, .tup (SqT.of hy') (.cons (.int _) (.cons (.int _) (.cons (.int _) (.cons (.bl _) .nil)))), .tup (SqT.of hy4) (.cons (.int _) (.cons (.int _) (.cons (.int _) (.cons (.bl _) .nil)))), shaped4 .., shaped4 .., ?_⟩⟩
        change rNe (V.bl _) (V.bl (PyData.eqv _ _)) _ _
        rw [eqv4]
        exact ⟨rfl, _, rfl, if_false_of (by rw [decide_eq_true rfl]; rfl) ⟨s5, hM5⟩⟩
      · rintro G4 ⟨s4, hM4⟩
        refine ⟨(by show 0 ≤ sizeLine; decide), fun M2 hM2 => ⟨.list [], .list [], .lst (SqL.of (same_new hM2 _ _ hM4)) .nil, .lst (SqL.of upd_same) .nil, by decide +kernel, by decide +kernel, _, rfl, if_false_of (by decide +kernel) ?_⟩⟩
        exact ⟨sG.trans (s4.trans (same_new hM2)), _, _, rfl⟩
    · rintro σ G ⟨sG, v6, v7, rfl⟩
      refine ⟨_, rfl, L, rfl, ⟨_, SqL.of (sG _ _ eL)⟩, fun M hM => lc_list (K := K) (a := L) (xs := [V.ref x0, V.ref x1, V.ref x2, V.ref x3, V.ref x4]) (fun j G4 => Same G G4 ∧ G4 M = some (.lst (([0, 1, 1, 1, 1].take j).map fun n : Nat => V.int n))) ⟨same_new hM, upd_same⟩ (fun i G4 _ z => SqL.of (z.1 _ _ (sG _ _ eL))) ?_ ?_⟩
      · rintro j v G4 hv ⟨s4, hM4⟩
        obtain ⟨u, hu⟩ : ∃ u, [V.ref t0, V.ref t1, V.ref t2, V.ref t3, V.ref t4][j]? = some u := ⟨_, List.getElem?_eq_getElem (l := [V.ref t0, V.ref t1, V.ref t2, V.ref t3, V.ref t4]) (List.getElem?_eq_some_iff.mp hv).1⟩
        obtain ⟨p2, b2, a2, tr2, n2, Rw2, hn2⟩ := RR j v u hv hu
        obtain ⟨x', C', f', y', e', ex', l', g', rfl, wc', hC', ⟨dx', wat'⟩, rfl, hy', _, hc⟩ := Rw2.same (sG.trans s4)
        refine ⟨rfl, _, rfl, tNil_to ⟨x', C', dx', _, e', ex', l', g', rfl, wc'.k, wat', fun N hN => ?_⟩⟩
        have sN := same_new (o := .lst [V.bl e', V.bl ex', V.bl l', V.bl g']) hN
        refine ⟨.inl ⟨rfl, _, SqL.of upd_same⟩, ?_⟩
        refine tC1_to ?_
        refine ⟨N, .bl true, _, [.bool e', .bool ex', .bool l', .bool g'], .bool true, rfl, rfl, SqL.of upd_same, .cons (.bl _) (.cons (.bl _) (.cons (.bl _) (.cons (.bl _) .nil))), .bl _, rfl, rfl, by decide +kernel, _, sN _ _ hM4, ?_, fun b o e => ?_, ?_⟩
        · rw [List.length_map]
          exact Nat.lt_of_le_of_lt (List.length_take_le' _ _) (by show 5 < sizeLine; decide)
        · rw [upd_ne (ne_of_none e hM)]
          exact sN _ _ (s4 _ _ e)
        · rw [upd_same, List.take_add_one, hn2, List.map_append, cnt4, hc]
          rfl
      · rintro G4 ⟨s4, hM4⟩
        refine ⟨(by show 5 ≤ sizeLine; decide), fun M2 hM2 => ⟨.list [.int 0, .int 1, .int 1, .int 1, .int 1], .list [.int 0, .int 1, .int 1, .int 1, .int 1], .lst (SqL.of (same_new hM2 _ _ hM4)) (.cons (.int _) (.cons (.int _) (.cons (.int _) (.cons (.int _) (.cons (.int _) .nil))))), .lst (SqL.of upd_same) (.cons (.int _) (.cons (.int _) (.cons (.int _) (.cons (.int _) (.cons (.int _) .nil))))), by decide +kernel, by decide +kernel, _, rfl, if_false_of (by decide +kernel) ?_⟩⟩
        have s6 := sG.trans (s4.trans (same_new (o := .lst [V.int 0, V.int 1, V.int 1, V.int 1, V.int 1]) hM2))
        generalize upd G4 M2 (.lst [V.int 0, V.int 1, V.int 1, V.int 1, V.int 1]) = G6 at s6 ⊢
        clear hM2 hM4 s4 sG hM
        refine ⟨_, rfl, _, rfl, _, rfl, fun x5 d5 hx5 hd5 _ => okW T W hx5 hd5 ⟨p1, p2⟩ ⟨b1, b2⟩ ⟨a1, a2⟩ fun G7 s7 w7 => ⟨rfl, ?_⟩⟩
        have s7 := s6.trans s7
        clear s6 hx5 hd5
        have w0' := w0.same s7
        obtain ⟨dx5, w7'⟩ := id w7
        obtain ⟨dx0, w0''⟩ := id w0'
        refine ⟨_, rfl, L, _, 0, _, rfl, rfl, SqL.of (s7 _ _ eL), rfl, x5, x0, dx5, dx0, _, _, rfl, rfl, w7', w0'', x5, T.a_Wheel, p, b, a, false, W.W.w, w7, .inl ⟨x0, T.a_Wheel, p, b, a, false, _, _, _, _, rfl, W.W.w, W.W.k, w0', _, rfl, _, rfl, if_false_of (by rw [decide_eq_true ⟨rfl, rfl, rfl, rfl⟩]; rfl) ?_⟩⟩
        clear w7 w7' w0'' dx5 dx0 w0'
        refine ⟨_, rfl, _, rfl, _, rfl, _, rfl, (by show 3 ≤ sizeLine; decide), fun t5 ht5 => ?_⟩
        have y5 := same_new (o := .tup [V.int p, V.int b, V.int a]) ht5
        have e5 : (upd G7 t5 (.tup [V.int p, V.int b, V.int a])) t5 = some (.tup [V.int p, V.int b, V.int a]) := upd_same
        have s8 := s7.trans y5
        generalize upd G7 t5 (.tup [V.int p, V.int b, V.int a]) = G8 at e5 s8 ⊢
        clear y5 ht5 s7
        have w8 := w0.same s8
        obtain ⟨dx8, w8'⟩ := id w8
        refine ⟨_, rfl, L, _, 0, _, rfl, rfl, SqL.of (s8 _ _ eL), rfl, tNil_to ⟨x0, dx8, _, rfl, w8', x0, T.a_Wheel, p, b, a, false, rfl, W.W.w, w8, ⟨by omega, by omega, by omega⟩, fun txt => ⟨txt, rfl, ?_⟩⟩⟩
        refine tNil_to ⟨(by show 4 ≤ sizeLine; decide), fun O hO => ?_⟩
        have yO := same_new (o := .lst [V.non, V.int p, V.ref t5, V.str txt]) hO
        have eO : (upd G8 O (.lst [V.non, V.int p, V.ref t5, V.str txt])) O = some (.lst [V.non, V.int p, V.ref t5, V.str txt]) := upd_same
        have e5 := yO _ _ e5
        have s9 := s8.trans yO
        refine ⟨O, rfl, ⟨_, SqL.of eO⟩, ?_⟩
        generalize upd G8 O (.lst [V.non, V.int p, V.ref t5, V.str txt]) = G9 at e5 s9 eO ⊢
        clear yO hO s8 w8' w8
        refine fun M hM => lc_list (K := K) (a := O) (xs := [V.non, V.int p, V.ref t5, V.str txt]) (fun j G => Same G9 G ∧ G M = some (.lst [])) ⟨same_new hM, upd_same⟩ (fun i G _ z => SqL.of (z.1 _ _ eO)) ?_ ?_
        · rintro j v G hv ⟨sG2, hMG⟩
          obtain ⟨ty, ht, hT⟩ : ∃ ty ∈ (["NoneType", "int", "tuple", "str"] : List String), NT G v ty := by
            match j, hv with
            | 0, hv => cases hv; exact ⟨_, by simp, .non⟩
            | 1, hv => cases hv; exact ⟨"int", by simp, .int _⟩
            | 2, hv => cases hv; exact ⟨"tuple", by simp, .tup (sG2 _ _ e5)⟩
            | 3, hv => cases hv; exact ⟨"str", by simp, .str _⟩
          have wG := w0.same (s9.trans sG2)
          obtain ⟨dx9, wG'⟩ := id wG
          exact ⟨rfl, _, rfl, L, _, 0, _, rfl, rfl, SqL.of (sG2 _ _ (s9 _ _ eL)), rfl, _, rfl, x0, T.a_Wheel, dx9, _, rfl, wG', .inl ⟨.type ty, W.W.eq, hT.ty, (W.no ty ht).1, x0, T.a_Wheel, p, b, a, false, W.W.w, wG, .inr ⟨v, .type ty, rfl, hT.ty, (W.no ty ht).2, _, rfl, _, rfl, if_false_of rfl ⟨sG2, hMG⟩⟩⟩⟩
        · rintro G ⟨sG2, hMG⟩
          refine ⟨(by show 0 ≤ sizeLine; decide), fun M2 hM2 => ⟨.list [], .list [], .lst (SqL.of (same_new hM2 _ _ hMG)) .nil, .lst (SqL.of upd_same) .nil, by decide +kernel, by decide +kernel, ?_⟩⟩
          have sE := s9.trans (sG2.trans (same_new (o := .lst []) hM2))
          exact Eq.mpr (congrArg (fun c => Q (V.bl c) _) (by decide +kernel)) (k _ (P3.same sE) (F3.trans (same_fr sE)))

def spLaw (K : PySem.W.Frag) (P1 : Addr) : Sp := fun vs H Q _ => ∃ (a : Addr) (ns : List Int), vs = [.ref a] ∧ SqL K H a (ns.map V.int) ∧ ns.length ≤ 63 ∧ LamX.Tabs [(P1, "_law_refused_right.<locals>.<lambda>")] H ∧ ∀ H', Q (.bl true) H'
theorem ok_law (HP : PrF lawFile P) (T : Txt K mg) (W : Whl T) (B : Caught K mg T.bad.C) {c P1 : Addr} {oc : Value} {od an : Option Addr} {osl : Array (Option Value)} {kV doc pm ct : Value}
    (lk : K.lookup T.a_refused_right = some ⟨oc, od, .func (PySem.W.fnOf "_law_refused_right" "_law_refused_right" (defArgs s_refused_right) (defBody s_refused_right) (defScope s_refused_right) .none kV doc pm an (.ref c) ct), osl⟩) (hcd : PySem.W.codeIn K (.ref c) "_law_refused_right" = true)
    (TB : LamX.TabB base mg c P1) : FnG P w K mg base CX0 10 T.a_law (spLaw K P1) := by
  have OR := ok_refused_right (P := P) (w := w) HP T W B lk hcd ((fun_mk (st := s_refused_right) lk hcd T.F_refused_right.kp).binds (ps := ["_law_pen_here"]) fun _ _ _ _ _ _ us hl => match us, hl with | [_], _ => rfl) TB
  have OM := ok_made_right (P := P) (w := w) (base := base) HP T W
  refine FnG.mk0 T.F_law sc_law (b_law T) (fun vs H Q E h => ?_) (fun cdv A outer s H vs Q E gu hr h => ?_)
  · obtain ⟨a, ns, rfl, _⟩ := h; rfl
  · obtain ⟨a, ns, rfl, hS, hl, hT, k⟩ := h
    refine ⟨_, pss_cons (ps_set (i := 1) sc_law.nd rfl (Or.inl rfl) (pe_call (ok_pen T) (hr.mono (by decide)) rfl T.m_pen T.F_pen.kp (b_pen T) .nil pass0 (pa_cons (pv 0) (pa_nil))))
      (pss_cons (ps_for PassesOwn.never rfl (pi_range1 (by rfl) T.n_range (pa_cons (pe_int) (pa_nil))) (pg_name (i := 2) sc_law.nd rfl (Or.inl rfl)) (pss_one (ps_if (PW.pt (pw_or (pt_not (pt_val (pe_callG gu OM (hr.mono (by decide)) T.F_made_right.kp rfl T.m_made_right pass0 (pa_cons (pv 1) (pa_nil))))) (pw_or1 (pt_not (pt_val (pe_callG gu OR (hr.mono (by decide)) T.F_refused_right.kp rfl T.m_refused_right pass0 (pa_cons (pv 1) (pa_nil)))))))) (pss_one (ps_ret (pe_bl))) (pss_nil))))
      (pss_one (ps_ret (pe_cmpR (op_eqD hr.units) (pe_lst (pa_cons (ClX.pe_cval (pe_glob (v := .ref T.a_Wheel) rfl T.m_Wheel rfl)) (pa_cons (ClX.pe_cval (pe_glob (v := .ref T.a_Even) rfl T.m_Even rfl)) (pa_cons (ClX.pe_cval (pe_glob (v := .ref T.a_Exact) rfl T.m_Exact rfl)) (pa_cons (ClX.pe_cval (pe_glob (v := .ref T.a_Lagging) rfl T.m_Lagging rfl)) (pa_cons (ClX.pe_cval (pe_glob (v := .ref T.a_Grid) rfl T.m_Grid rfl)) (pa_nil))))))) (pe_op op_cat (pe_op op_rep (pe_lst (pa_cons (pe_bl) (pa_nil))) (pe_int)) (pe_lst (pa_cons (pe_bl) (pa_nil)))) (nomark _))))), ?_⟩
    refine ⟨_, rfl, a, ns, rfl, hS, hl, fun p H1 s1 hP => ?_⟩
    refine ⟨8, rfl, by decide, by decide, for_range (n := 8) (fun i σ H' => ∃ x2 : Option V, σ = [some (.ref a), some (.ref p), x2] ∧ Pen H' p (8 * i) ∧ LamX.Tabs [(P1, "_law_refused_right.<locals>.<lambda>")] H')
      ⟨_, rfl, hP, hT.ext s1⟩ ?_ ?_⟩
    · rintro i σ H2 hi ⟨x2, rfl, hP2, hT2⟩
      refine ⟨_, rfl, p, 8 * i, rfl, hP2, by omega, fun H3 hP3 f3 => ⟨true, rfl, iteF ?_⟩⟩
      have hT3 := tabs_fr f3 hP2 hT2
      refine ⟨_, rfl, p, 8 * i + 6, rfl, hP3, by omega, hT3, fun H4 hP4 hT4 => ⟨true, rfl, iteF ?_⟩⟩
      exact ⟨_, rfl, hP4, hT4⟩
    · rintro σ H2 ⟨x2, rfl, hP2, hT2⟩
      have cv := W.cv
      obtain ⟨r0, u0, c0⟩ := cv _ (.head _)
      obtain ⟨r1, u1, c1⟩ := cv _ (.tail _ (.head _))
      obtain ⟨r2, u2, c2⟩ := cv _ (.tail _ (.tail _ (.head _)))
      obtain ⟨r3, u3, c3⟩ := cv _ (.tail _ (.tail _ (.tail _ (.head _))))
      obtain ⟨r4, u4, c4⟩ := cv _ (.tail _ (.tail _ (.tail _ (.tail _ (.head _)))))
      refine ⟨_, _, _, u0, rfl, r0, c0, _, _, _, u1, rfl, r1, c1, _, _, _, u2, rfl, r2, c2, _, _, _, u3, rfl, r3, c3, _, _, _, u4, rfl, r4, c4, ?_⟩
      refine tNil_to ⟨(by show 5 ≤ sizeLine; decide), fun L hL => ?_⟩
      have eL : (upd H2 L (.lst [V.bl false, V.bl false, V.bl false, V.bl false, V.bl true])) L = some (.lst [V.bl false, V.bl false, V.bl false, V.bl false, V.bl true]) := upd_same
      change tOp _ _ _ _ (upd H2 L (.lst [V.bl false, V.bl false, V.bl false, V.bl false, V.bl true])) _
      generalize upd H2 L (.lst [V.bl false, V.bl false, V.bl false, V.bl false, V.bl true]) = G0 at eL ⊢
      refine ⟨(by show 1 ≤ sizeLine; decide), fun L1 h1 => ?_⟩
      have y1 := same_new (o := .lst [V.bl false]) h1
      have e1 : (upd G0 L1 (.lst [V.bl false])) L1 = some (.lst [V.bl false]) := upd_same
      have eL := y1 _ _ eL
      generalize upd G0 L1 (.lst [V.bl false]) = G1 at e1 eL ⊢
      refine ⟨L1, 4, _, rfl, rfl, e1, by decide, by decide, (by show 4 ≤ sizeLine; decide), fun L2 h2 => ?_⟩
      have y2 := same_new (o := .lst (List.replicate (Int.toNat 4) [V.bl false]).flatten) h2
      have e2 : (upd G1 L2 (.lst (List.replicate (Int.toNat 4) [V.bl false]).flatten)) L2 = some (.lst [V.bl false, V.bl false, V.bl false, V.bl false]) := upd_same
      have eL := y2 _ _ eL
      generalize upd G1 L2 (.lst (List.replicate (Int.toNat 4) [V.bl false]).flatten) = G2 at e2 eL ⊢
      refine ⟨(by show 1 ≤ sizeLine; decide), fun L3 h3 => ?_⟩
      have y3 := same_new (o := .lst [V.bl true]) h3
      have e3 : (upd G2 L3 (.lst [V.bl true])) L3 = some (.lst [V.bl true]) := upd_same
      have eL := y3 _ _ eL
      have e2 := y3 _ _ e2
      generalize upd G2 L3 (.lst [V.bl true]) = G3 at e2 e3 eL ⊢
      refine ⟨L2, L3, _, _, rfl, rfl, e2, e3, (by show 5 ≤ sizeLine; decide), fun L4 h4 => ?_⟩
      have eL := same_new (o := .lst ([V.bl false, V.bl false, V.bl false, V.bl false] ++ [V.bl true])) h4 _ _ eL
      have db : ∀ Z : Hp, ∀ z : Addr, Z z = some (.lst [V.bl false, V.bl false, V.bl false, V.bl false, V.bl true]) → Dp K Z (.ref z) (.list [.bool false, .bool false, .bool false, .bool false, .bool true]) := fun Z z h => .lst (SqL.of h) (.cons (.bl _) (.cons (.bl _) (.cons (.bl _) (.cons (.bl _) (.cons (.bl _) .nil)))))
      refine ⟨_, _, db _ _ eL, db _ _ upd_same, by decide +kernel, by decide +kernel, ?_⟩
      exact Eq.mpr (congrArg (fun c => Q (V.bl c) _) (by decide +kernel)) (k _)


end
theorem all_mk {l : PySem.W.OpenLaw} {w : World} {K : PySem.W.Frag} {h : Heap} {mg : Str → Option Value} {fa : Addr} (X : K.In h) (G : h.Ns mainGlobals mg) (hfa : mg "law" = some (.ref fa)) (tabs : ∀ x ∈ (["_law_refused_right"] : List Str), TabOf K mg h x)
    {f_is_whole : Addr} {od_is_whole an_is_whole : Option Addr} {sl_is_whole : Array (Option Value)} {oc_is_whole kV_is_whole dc_is_whole pm_is_whole cd_is_whole ct_is_whole : Value}
    {f_is_between : Addr} {od_is_between an_is_between : Option Addr} {sl_is_between : Array (Option Value)} {oc_is_between kV_is_between dc_is_between pm_is_between cd_is_between ct_is_between : Value}
    {f_need_part : Addr} {od_need_part an_need_part : Option Addr} {sl_need_part : Array (Option Value)} {oc_need_part kV_need_part dc_need_part pm_need_part cd_need_part ct_need_part : Value}
    {f_pen : Addr} {od_pen an_pen : Option Addr} {sl_pen : Array (Option Value)} {oc_pen kV_pen dc_pen pm_pen cd_pen ct_pen : Value}
    {f_draw : Addr} {od_draw an_draw : Option Addr} {sl_draw : Array (Option Value)} {oc_draw kV_draw dc_draw pm_draw cd_draw ct_draw : Value}
    {f_pick : Addr} {od_pick an_pick : Option Addr} {sl_pick : Array (Option Value)} {oc_pick kV_pick dc_pick pm_pick cd_pick ct_pick : Value}
    {f_heard : Addr} {od_heard an_heard : Option Addr} {sl_heard : Array (Option Value)} {oc_heard kV_heard dc_heard pm_heard cd_heard ct_heard : Value}
    {f_part : Addr} {od_part an_part : Option Addr} {sl_part : Array (Option Value)} {oc_part kV_part dc_part pm_part cd_part ct_part : Value}
    {f_told_right : Addr} {od_told_right an_told_right : Option Addr} {sl_told_right : Array (Option Value)} {oc_told_right kV_told_right dc_told_right pm_told_right cd_told_right ct_told_right : Value}
    {f_classes : Addr} {od_classes an_classes : Option Addr} {sl_classes : Array (Option Value)} {oc_classes kV_classes dc_classes pm_classes cd_classes ct_classes : Value}
    {f_made_right : Addr} {od_made_right an_made_right : Option Addr} {sl_made_right : Array (Option Value)} {oc_made_right kV_made_right dc_made_right pm_made_right cd_made_right ct_made_right : Value}
    {f_refused_right : Addr} {od_refused_right an_refused_right : Option Addr} {sl_refused_right : Array (Option Value)} {oc_refused_right kV_refused_right dc_refused_right pm_refused_right ct_refused_right : Value}
    {f_law : Addr} {od_law an_law : Option Addr} {sl_law : Array (Option Value)} {oc_law kV_law dc_law pm_law cd_law ct_law : Value}
    {f_BadWheel_init : Addr} {od_BadWheel_init an_BadWheel_init : Option Addr} {sl_BadWheel_init : Array (Option Value)} {oc_BadWheel_init kV_BadWheel_init dc_BadWheel_init pm_BadWheel_init cd_BadWheel_init ct_BadWheel_init : Value}
    {f_Wheel_init : Addr} {od_Wheel_init an_Wheel_init : Option Addr} {sl_Wheel_init : Array (Option Value)} {oc_Wheel_init kV_Wheel_init dc_Wheel_init pm_Wheel_init cd_Wheel_init ct_Wheel_init : Value}
    {f_Wheel_trusted : Addr} {od_Wheel_trusted an_Wheel_trusted : Option Addr} {sl_Wheel_trusted : Array (Option Value)} {oc_Wheel_trusted kV_Wheel_trusted dc_Wheel_trusted pm_Wheel_trusted cd_Wheel_trusted ct_Wheel_trusted : Value}
    {p_Wheel_trusted : Addr} {rest_Wheel_trusted : List Value}
    {f_Wheel_play : Addr} {od_Wheel_play an_Wheel_play : Option Addr} {sl_Wheel_play : Array (Option Value)} {oc_Wheel_play kV_Wheel_play dc_Wheel_play pm_Wheel_play cd_Wheel_play ct_Wheel_play : Value}
    {p_Wheel_play : Addr} {rest_Wheel_play : List Value}
    {f_Wheel_never_parts : Addr} {od_Wheel_never_parts an_Wheel_never_parts : Option Addr} {sl_Wheel_never_parts : Array (Option Value)} {oc_Wheel_never_parts kV_Wheel_never_parts dc_Wheel_never_parts pm_Wheel_never_parts cd_Wheel_never_parts ct_Wheel_never_parts : Value}
    {p_Wheel_never_parts : Addr} {rest_Wheel_never_parts : List Value}
    {f_Wheel_eq : Addr} {od_Wheel_eq an_Wheel_eq : Option Addr} {sl_Wheel_eq : Array (Option Value)} {oc_Wheel_eq kV_Wheel_eq dc_Wheel_eq pm_Wheel_eq cd_Wheel_eq ct_Wheel_eq : Value}
    {f_Wheel_str : Addr} {od_Wheel_str an_Wheel_str : Option Addr} {sl_Wheel_str : Array (Option Value)} {oc_Wheel_str kV_Wheel_str dc_Wheel_str pm_Wheel_str cd_Wheel_str ct_Wheel_str : Value}
    {f_Even_init : Addr} {od_Even_init an_Even_init : Option Addr} {sl_Even_init : Array (Option Value)} {oc_Even_init kV_Even_init dc_Even_init pm_Even_init ct_Even_init : Value}
    {ca_Even_init cc_Even_init : Addr} {e_Even_init g1_Even_init : Value} {dd_Even_init g2_Even_init : Option Addr} {vs_Even_init : Array Value} {sl2_Even_init g3_Even_init : Array (Option Value)} {tf_Even_init : Tok} {cdD_Even_init : ClassData}
    {f_Exact_init : Addr} {od_Exact_init an_Exact_init : Option Addr} {sl_Exact_init : Array (Option Value)} {oc_Exact_init kV_Exact_init dc_Exact_init pm_Exact_init ct_Exact_init : Value}
    {ca_Exact_init cc_Exact_init : Addr} {e_Exact_init g1_Exact_init : Value} {dd_Exact_init g2_Exact_init : Option Addr} {vs_Exact_init : Array Value} {sl2_Exact_init g3_Exact_init : Array (Option Value)} {tf_Exact_init : Tok} {cdD_Exact_init : ClassData}
    {f_Lagging_init : Addr} {od_Lagging_init an_Lagging_init : Option Addr} {sl_Lagging_init : Array (Option Value)} {oc_Lagging_init kV_Lagging_init dc_Lagging_init pm_Lagging_init ct_Lagging_init : Value}
    {ca_Lagging_init cc_Lagging_init : Addr} {e_Lagging_init g1_Lagging_init : Value} {dd_Lagging_init g2_Lagging_init : Option Addr} {vs_Lagging_init : Array Value} {sl2_Lagging_init g3_Lagging_init : Array (Option Value)} {tf_Lagging_init : Tok} {cdD_Lagging_init : ClassData}
    {f_Grid_init : Addr} {od_Grid_init an_Grid_init : Option Addr} {sl_Grid_init : Array (Option Value)} {oc_Grid_init kV_Grid_init dc_Grid_init pm_Grid_init ct_Grid_init : Value}
    {ca_Grid_init cc_Grid_init : Addr} {e_Grid_init g1_Grid_init : Value} {dd_Grid_init g2_Grid_init : Option Addr} {vs_Grid_init : Array Value} {sl2_Grid_init g3_Grid_init : Array (Option Value)} {tf_Grid_init : Tok} {cdD_Grid_init : ClassData}
    {C_BadWheel C_ReachError C_Wheel C_Even C_Exact C_Lagging C_Grid : Addr} {tM : Tok} {nmb qb : Str} {Nb : Addr} {bsb bmb : List Value} {snb : List Str} {subb : List Value} {abb : Bool} {colb : Option Bool} {ddb : Option Addr} {mb0 mb1 mb2 mb3 mb5 : Option Value}
    {cc_refused_right pp_refused_right : Addr} {e_refused_right : Value} {dd_refused_right : Option Addr} {vs_refused_right : Array Value} {sl2_refused_right : Array (Option Value)}
    (a_is_whole : PySem.W.nsIn K mainGlobals "is_whole" = some (some (.ref f_is_whole)))
    (l_is_whole : K.lookup f_is_whole = some ⟨oc_is_whole, od_is_whole, .func (PySem.W.fnOf "is_whole" "is_whole" (defArgs s_is_whole) (defBody s_is_whole) (defScope s_is_whole) .none kV_is_whole dc_is_whole pm_is_whole an_is_whole cd_is_whole ct_is_whole), sl_is_whole⟩)
    (c_is_whole : PySem.W.codeIn K cd_is_whole "is_whole" = true)
    (k_is_whole : PySem.W.keepIn K (.ref f_is_whole) = true)
    (a_is_between : PySem.W.nsIn K mainGlobals "is_between" = some (some (.ref f_is_between)))
    (l_is_between : K.lookup f_is_between = some ⟨oc_is_between, od_is_between, .func (PySem.W.fnOf "is_between" "is_between" (defArgs s_is_between) (defBody s_is_between) (defScope s_is_between) .none kV_is_between dc_is_between pm_is_between an_is_between cd_is_between ct_is_between), sl_is_between⟩)
    (c_is_between : PySem.W.codeIn K cd_is_between "is_between" = true)
    (k_is_between : PySem.W.keepIn K (.ref f_is_between) = true)
    (a_need_part : PySem.W.nsIn K mainGlobals "need_part" = some (some (.ref f_need_part)))
    (l_need_part : K.lookup f_need_part = some ⟨oc_need_part, od_need_part, .func (PySem.W.fnOf "need_part" "need_part" (defArgs s_need_part) (defBody s_need_part) (defScope s_need_part) .none kV_need_part dc_need_part pm_need_part an_need_part cd_need_part ct_need_part), sl_need_part⟩)
    (c_need_part : PySem.W.codeIn K cd_need_part "need_part" = true)
    (k_need_part : PySem.W.keepIn K (.ref f_need_part) = true)
    (a_pen : PySem.W.nsIn K mainGlobals "_law_pen" = some (some (.ref f_pen)))
    (l_pen : K.lookup f_pen = some ⟨oc_pen, od_pen, .func (PySem.W.fnOf "_law_pen" "_law_pen" (defArgs s_pen) (defBody s_pen) (defScope s_pen) .none kV_pen dc_pen pm_pen an_pen cd_pen ct_pen), sl_pen⟩)
    (c_pen : PySem.W.codeIn K cd_pen "_law_pen" = true)
    (k_pen : PySem.W.keepIn K (.ref f_pen) = true)
    (a_draw : PySem.W.nsIn K mainGlobals "_law_draw" = some (some (.ref f_draw)))
    (l_draw : K.lookup f_draw = some ⟨oc_draw, od_draw, .func (PySem.W.fnOf "_law_draw" "_law_draw" (defArgs s_draw) (defBody s_draw) (defScope s_draw) .none kV_draw dc_draw pm_draw an_draw cd_draw ct_draw), sl_draw⟩)
    (c_draw : PySem.W.codeIn K cd_draw "_law_draw" = true)
    (k_draw : PySem.W.keepIn K (.ref f_draw) = true)
    (a_pick : PySem.W.nsIn K mainGlobals "_law_pick" = some (some (.ref f_pick)))
    (l_pick : K.lookup f_pick = some ⟨oc_pick, od_pick, .func (PySem.W.fnOf "_law_pick" "_law_pick" (defArgs s_pick) (defBody s_pick) (defScope s_pick) .none kV_pick dc_pick pm_pick an_pick cd_pick ct_pick), sl_pick⟩)
    (c_pick : PySem.W.codeIn K cd_pick "_law_pick" = true)
    (k_pick : PySem.W.keepIn K (.ref f_pick) = true)
    (a_heard : PySem.W.nsIn K mainGlobals "_law_heard" = some (some (.ref f_heard)))
    (l_heard : K.lookup f_heard = some ⟨oc_heard, od_heard, .func (PySem.W.fnOf "_law_heard" "_law_heard" (defArgs s_heard) (defBody s_heard) (defScope s_heard) .none kV_heard dc_heard pm_heard an_heard cd_heard ct_heard), sl_heard⟩)
    (c_heard : PySem.W.codeIn K cd_heard "_law_heard" = true)
    (k_heard : PySem.W.keepIn K (.ref f_heard) = true)
    (a_part : PySem.W.nsIn K mainGlobals "_law_part" = some (some (.ref f_part)))
    (l_part : K.lookup f_part = some ⟨oc_part, od_part, .func (PySem.W.fnOf "_law_part" "_law_part" (defArgs s_part) (defBody s_part) (defScope s_part) .none kV_part dc_part pm_part an_part cd_part ct_part), sl_part⟩)
    (c_part : PySem.W.codeIn K cd_part "_law_part" = true)
    (k_part : PySem.W.keepIn K (.ref f_part) = true)
    (a_told_right : PySem.W.nsIn K mainGlobals "_law_told_right" = some (some (.ref f_told_right)))
    (l_told_right : K.lookup f_told_right = some ⟨oc_told_right, od_told_right, .func (PySem.W.fnOf "_law_told_right" "_law_told_right" (defArgs s_told_right) (defBody s_told_right) (defScope s_told_right) .none kV_told_right dc_told_right pm_told_right an_told_right cd_told_right ct_told_right), sl_told_right⟩)
    (c_told_right : PySem.W.codeIn K cd_told_right "_law_told_right" = true)
    (k_told_right : PySem.W.keepIn K (.ref f_told_right) = true)
    (a_classes : PySem.W.nsIn K mainGlobals "_law_classes" = some (some (.ref f_classes)))
    (l_classes : K.lookup f_classes = some ⟨oc_classes, od_classes, .func (PySem.W.fnOf "_law_classes" "_law_classes" (defArgs s_classes) (defBody s_classes) (defScope s_classes) .none kV_classes dc_classes pm_classes an_classes cd_classes ct_classes), sl_classes⟩)
    (c_classes : PySem.W.codeIn K cd_classes "_law_classes" = true)
    (k_classes : PySem.W.keepIn K (.ref f_classes) = true)
    (a_made_right : PySem.W.nsIn K mainGlobals "_law_made_right" = some (some (.ref f_made_right)))
    (l_made_right : K.lookup f_made_right = some ⟨oc_made_right, od_made_right, .func (PySem.W.fnOf "_law_made_right" "_law_made_right" (defArgs s_made_right) (defBody s_made_right) (defScope s_made_right) .none kV_made_right dc_made_right pm_made_right an_made_right cd_made_right ct_made_right), sl_made_right⟩)
    (c_made_right : PySem.W.codeIn K cd_made_right "_law_made_right" = true)
    (k_made_right : PySem.W.keepIn K (.ref f_made_right) = true)
    (a_refused_right : PySem.W.nsIn K mainGlobals "_law_refused_right" = some (some (.ref f_refused_right)))
    (l_refused_right : K.lookup f_refused_right = some ⟨oc_refused_right, od_refused_right, .func (PySem.W.fnOf "_law_refused_right" "_law_refused_right" (defArgs s_refused_right) (defBody s_refused_right) (defScope s_refused_right) .none kV_refused_right dc_refused_right pm_refused_right an_refused_right (.ref cc_refused_right) ct_refused_right), sl_refused_right⟩)
    (c_refused_right : PySem.W.codeIn K (.ref cc_refused_right) "_law_refused_right" = true)
    (k_refused_right : PySem.W.keepIn K (.ref f_refused_right) = true)
    (a_law : PySem.W.nsIn K mainGlobals "law" = some (some (.ref f_law)))
    (l_law : K.lookup f_law = some ⟨oc_law, od_law, .func (PySem.W.fnOf "law" "law" (defArgs s_law) (defBody s_law) (defScope s_law) .none kV_law dc_law pm_law an_law cd_law ct_law), sl_law⟩)
    (c_law : PySem.W.codeIn K cd_law "law" = true)
    (k_law : PySem.W.keepIn K (.ref f_law) = true)
    (a_BadWheel_init : PySem.W.findIn K (.ref C_BadWheel) "__init__" = some (some (.ref f_BadWheel_init)))
    (l_BadWheel_init : K.lookup f_BadWheel_init = some ⟨oc_BadWheel_init, od_BadWheel_init, .func (PySem.W.fnOf "__init__" "BadWheel.__init__" (defArgs s_BadWheel_init) (defBody s_BadWheel_init) (defScope s_BadWheel_init) .none kV_BadWheel_init dc_BadWheel_init pm_BadWheel_init an_BadWheel_init cd_BadWheel_init ct_BadWheel_init), sl_BadWheel_init⟩)
    (c_BadWheel_init : PySem.W.codeIn K cd_BadWheel_init "BadWheel.__init__" = true)
    (k_BadWheel_init : PySem.W.keepIn K (.ref f_BadWheel_init) = true)
    (a_Wheel_init : PySem.W.findIn K (.ref C_Wheel) "__init__" = some (some (.ref f_Wheel_init)))
    (l_Wheel_init : K.lookup f_Wheel_init = some ⟨oc_Wheel_init, od_Wheel_init, .func (PySem.W.fnOf "__init__" "Wheel.__init__" (defArgs s_Wheel_init) (defBody s_Wheel_init) (defScope s_Wheel_init) .none kV_Wheel_init dc_Wheel_init pm_Wheel_init an_Wheel_init cd_Wheel_init ct_Wheel_init), sl_Wheel_init⟩)
    (c_Wheel_init : PySem.W.codeIn K cd_Wheel_init "Wheel.__init__" = true)
    (k_Wheel_init : PySem.W.keepIn K (.ref f_Wheel_init) = true)
    (a_Wheel_trusted : PySem.W.findIn K (.ref C_Wheel) "trusted" = some (some (.ref p_Wheel_trusted)))
    (r_Wheel_trusted : PySem.W.recIn K p_Wheel_trusted "property" = some (.ref f_Wheel_trusted :: rest_Wheel_trusted))
    (l_Wheel_trusted : K.lookup f_Wheel_trusted = some ⟨oc_Wheel_trusted, od_Wheel_trusted, .func (PySem.W.fnOf "trusted" "Wheel.trusted" (defArgs s_Wheel_trusted) (defBody s_Wheel_trusted) (defScope s_Wheel_trusted) .none kV_Wheel_trusted dc_Wheel_trusted pm_Wheel_trusted an_Wheel_trusted cd_Wheel_trusted ct_Wheel_trusted), sl_Wheel_trusted⟩)
    (c_Wheel_trusted : PySem.W.codeIn K cd_Wheel_trusted "Wheel.trusted" = true)
    (k_Wheel_trusted : PySem.W.keepIn K (.ref f_Wheel_trusted) = true)
    (a_Wheel_play : PySem.W.findIn K (.ref C_Wheel) "play" = some (some (.ref p_Wheel_play)))
    (r_Wheel_play : PySem.W.recIn K p_Wheel_play "property" = some (.ref f_Wheel_play :: rest_Wheel_play))
    (l_Wheel_play : K.lookup f_Wheel_play = some ⟨oc_Wheel_play, od_Wheel_play, .func (PySem.W.fnOf "play" "Wheel.play" (defArgs s_Wheel_play) (defBody s_Wheel_play) (defScope s_Wheel_play) .none kV_Wheel_play dc_Wheel_play pm_Wheel_play an_Wheel_play cd_Wheel_play ct_Wheel_play), sl_Wheel_play⟩)
    (c_Wheel_play : PySem.W.codeIn K cd_Wheel_play "Wheel.play" = true)
    (k_Wheel_play : PySem.W.keepIn K (.ref f_Wheel_play) = true)
    (a_Wheel_never_parts : PySem.W.findIn K (.ref C_Wheel) "never_parts" = some (some (.ref p_Wheel_never_parts)))
    (r_Wheel_never_parts : PySem.W.recIn K p_Wheel_never_parts "property" = some (.ref f_Wheel_never_parts :: rest_Wheel_never_parts))
    (l_Wheel_never_parts : K.lookup f_Wheel_never_parts = some ⟨oc_Wheel_never_parts, od_Wheel_never_parts, .func (PySem.W.fnOf "never_parts" "Wheel.never_parts" (defArgs s_Wheel_never_parts) (defBody s_Wheel_never_parts) (defScope s_Wheel_never_parts) .none kV_Wheel_never_parts dc_Wheel_never_parts pm_Wheel_never_parts an_Wheel_never_parts cd_Wheel_never_parts ct_Wheel_never_parts), sl_Wheel_never_parts⟩)
    (c_Wheel_never_parts : PySem.W.codeIn K cd_Wheel_never_parts "Wheel.never_parts" = true)
    (k_Wheel_never_parts : PySem.W.keepIn K (.ref f_Wheel_never_parts) = true)
    (a_Wheel_eq : PySem.W.findIn K (.ref C_Wheel) "__eq__" = some (some (.ref f_Wheel_eq)))
    (l_Wheel_eq : K.lookup f_Wheel_eq = some ⟨oc_Wheel_eq, od_Wheel_eq, .func (PySem.W.fnOf "__eq__" "Wheel.__eq__" (defArgs s_Wheel_eq) (defBody s_Wheel_eq) (defScope s_Wheel_eq) .none kV_Wheel_eq dc_Wheel_eq pm_Wheel_eq an_Wheel_eq cd_Wheel_eq ct_Wheel_eq), sl_Wheel_eq⟩)
    (c_Wheel_eq : PySem.W.codeIn K cd_Wheel_eq "Wheel.__eq__" = true)
    (k_Wheel_eq : PySem.W.keepIn K (.ref f_Wheel_eq) = true)
    (a_Wheel_str : PySem.W.findIn K (.ref C_Wheel) "__str__" = some (some (.ref f_Wheel_str)))
    (l_Wheel_str : K.lookup f_Wheel_str = some ⟨oc_Wheel_str, od_Wheel_str, .func (PySem.W.fnOf "__str__" "Wheel.__str__" (defArgs s_Wheel_str) (defBody s_Wheel_str) (defScope s_Wheel_str) .none kV_Wheel_str dc_Wheel_str pm_Wheel_str an_Wheel_str cd_Wheel_str ct_Wheel_str), sl_Wheel_str⟩)
    (c_Wheel_str : PySem.W.codeIn K cd_Wheel_str "Wheel.__str__" = true)
    (k_Wheel_str : PySem.W.keepIn K (.ref f_Wheel_str) = true)
    (a_Even_init : PySem.W.findIn K (.ref C_Even) "__init__" = some (some (.ref f_Even_init)))
    (l_Even_init : K.lookup f_Even_init = some ⟨oc_Even_init, od_Even_init, .func (PySem.W.ksFn "__init__" "Even.__init__" (defArgs s_Even_init) (defBody s_Even_init) (defScope s_Even_init) .none kV_Even_init dc_Even_init pm_Even_init an_Even_init (.ref ca_Even_init) ct_Even_init cc_Even_init), sl_Even_init⟩)
    (c_Even_init : PySem.W.codeIn K (.ref ca_Even_init) "Even.__init__" = true)
    (k_Even_init : PySem.W.keepIn K (.ref f_Even_init) = true)
    (t_Even_init : K.lookup ca_Even_init = some ⟨e_Even_init, dd_Even_init, .fields vs_Even_init, sl2_Even_init⟩)
    (p_Even_init : vs_Even_init[2]? = some (.str lawFile tf_Even_init))
    (y_Even_init : K.lookup cc_Even_init = some ⟨g1_Even_init, g2_Even_init, .cell (some (.ref C_Even)), g3_Even_init⟩)
    (w_Even_init : PySem.W.clsIn K C_Even = some cdD_Even_init)
    (a_Exact_init : PySem.W.findIn K (.ref C_Exact) "__init__" = some (some (.ref f_Exact_init)))
    (l_Exact_init : K.lookup f_Exact_init = some ⟨oc_Exact_init, od_Exact_init, .func (PySem.W.ksFn "__init__" "Exact.__init__" (defArgs s_Exact_init) (defBody s_Exact_init) (defScope s_Exact_init) .none kV_Exact_init dc_Exact_init pm_Exact_init an_Exact_init (.ref ca_Exact_init) ct_Exact_init cc_Exact_init), sl_Exact_init⟩)
    (c_Exact_init : PySem.W.codeIn K (.ref ca_Exact_init) "Exact.__init__" = true)
    (k_Exact_init : PySem.W.keepIn K (.ref f_Exact_init) = true)
    (t_Exact_init : K.lookup ca_Exact_init = some ⟨e_Exact_init, dd_Exact_init, .fields vs_Exact_init, sl2_Exact_init⟩)
    (p_Exact_init : vs_Exact_init[2]? = some (.str lawFile tf_Exact_init))
    (y_Exact_init : K.lookup cc_Exact_init = some ⟨g1_Exact_init, g2_Exact_init, .cell (some (.ref C_Exact)), g3_Exact_init⟩)
    (w_Exact_init : PySem.W.clsIn K C_Exact = some cdD_Exact_init)
    (a_Lagging_init : PySem.W.findIn K (.ref C_Lagging) "__init__" = some (some (.ref f_Lagging_init)))
    (l_Lagging_init : K.lookup f_Lagging_init = some ⟨oc_Lagging_init, od_Lagging_init, .func (PySem.W.ksFn "__init__" "Lagging.__init__" (defArgs s_Lagging_init) (defBody s_Lagging_init) (defScope s_Lagging_init) .none kV_Lagging_init dc_Lagging_init pm_Lagging_init an_Lagging_init (.ref ca_Lagging_init) ct_Lagging_init cc_Lagging_init), sl_Lagging_init⟩)
    (c_Lagging_init : PySem.W.codeIn K (.ref ca_Lagging_init) "Lagging.__init__" = true)
    (k_Lagging_init : PySem.W.keepIn K (.ref f_Lagging_init) = true)
    (t_Lagging_init : K.lookup ca_Lagging_init = some ⟨e_Lagging_init, dd_Lagging_init, .fields vs_Lagging_init, sl2_Lagging_init⟩)
    (p_Lagging_init : vs_Lagging_init[2]? = some (.str lawFile tf_Lagging_init))
    (y_Lagging_init : K.lookup cc_Lagging_init = some ⟨g1_Lagging_init, g2_Lagging_init, .cell (some (.ref C_Lagging)), g3_Lagging_init⟩)
    (w_Lagging_init : PySem.W.clsIn K C_Lagging = some cdD_Lagging_init)
    (a_Grid_init : PySem.W.findIn K (.ref C_Grid) "__init__" = some (some (.ref f_Grid_init)))
    (l_Grid_init : K.lookup f_Grid_init = some ⟨oc_Grid_init, od_Grid_init, .func (PySem.W.ksFn "__init__" "Grid.__init__" (defArgs s_Grid_init) (defBody s_Grid_init) (defScope s_Grid_init) .none kV_Grid_init dc_Grid_init pm_Grid_init an_Grid_init (.ref ca_Grid_init) ct_Grid_init cc_Grid_init), sl_Grid_init⟩)
    (c_Grid_init : PySem.W.codeIn K (.ref ca_Grid_init) "Grid.__init__" = true)
    (k_Grid_init : PySem.W.keepIn K (.ref f_Grid_init) = true)
    (t_Grid_init : K.lookup ca_Grid_init = some ⟨e_Grid_init, dd_Grid_init, .fields vs_Grid_init, sl2_Grid_init⟩)
    (p_Grid_init : vs_Grid_init[2]? = some (.str lawFile tf_Grid_init))
    (y_Grid_init : K.lookup cc_Grid_init = some ⟨g1_Grid_init, g2_Grid_init, .cell (some (.ref C_Grid)), g3_Grid_init⟩)
    (w_Grid_init : PySem.W.clsIn K C_Grid = some cdD_Grid_init)
    (z_ValueError : PySem.W.nsIn K mainGlobals "ValueError" = some none)
    (z_abs : PySem.W.nsIn K mainGlobals "abs" = some none)
    (z_bool : PySem.W.nsIn K mainGlobals "bool" = some none)
    (z_int : PySem.W.nsIn K mainGlobals "int" = some none)
    (z_isinstance : PySem.W.nsIn K mainGlobals "isinstance" = some none)
    (z_len : PySem.W.nsIn K mainGlobals "len" = some none)
    (z_list : PySem.W.nsIn K mainGlobals "list" = some none)
    (z_property : PySem.W.nsIn K mainGlobals "property" = some none)
    (z_range : PySem.W.nsIn K mainGlobals "range" = some none)
    (z_repr : PySem.W.nsIn K mainGlobals "repr" = some none)
    (z_staticmethod : PySem.W.nsIn K mainGlobals "staticmethod" = some none)
    (z_str : PySem.W.nsIn K mainGlobals "str" = some none)
    (z_super : PySem.W.nsIn K mainGlobals "super" = some none)
    (z_zip : PySem.W.nsIn K mainGlobals "zip" = some none)
    (t_refused_right : K.lookup cc_refused_right = some ⟨e_refused_right, dd_refused_right, .fields vs_refused_right, sl2_refused_right⟩)
    (p_refused_right : vs_refused_right[11]? = some (.ref pp_refused_right))
    (q_refused_right : K.lookup pp_refused_right = Option.none)
    (x_C : PySem.W.nsIn K mainGlobals "BadWheel" = some (some (.ref C_BadWheel)))
    (x_R : PySem.W.nsIn K mainGlobals "ReachError" = some (some (.ref C_ReachError)))
    (x_MP : PySem.W.nsIn K mainGlobals "MOST_PERIOD" = some (some (.int 1000000000000 tM)))
    (x_Wheel : PySem.W.nsIn K mainGlobals "Wheel" = some (some (.ref C_Wheel)))
    (x_Even : PySem.W.nsIn K mainGlobals "Even" = some (some (.ref C_Even)))
    (x_Exact : PySem.W.nsIn K mainGlobals "Exact" = some (some (.ref C_Exact)))
    (x_Lagging : PySem.W.nsIn K mainGlobals "Lagging" = some (some (.ref C_Lagging)))
    (x_Grid : PySem.W.nsIn K mainGlobals "Grid" = some (some (.ref C_Grid)))
    (x_pf : ((l.prog.main.file : Str) == lawFile) = true)
    (x_pt : (l.prog.main.scope.names.lookup ("super" : Str)).isSome = false)
    (x_any : PySem.W.nsIn K PySem.cStatics "thirdparty.any" = some none)
    (x_sT : PySem.W.typeIn K (.ref f_Wheel_init) = some (.type "function"))
    (x_sF : PySem.W.fnIn K f_Wheel_init = true)
    (x_L : K.lookup C_BadWheel = some (excClassObj nmb qb C_BadWheel Nb bsb bmb true snb subb abb colb ddb mb0 mb1 mb2 mb3 mb5 "ValueError.__new__"))
    (x_b : PySem.HandSPX.refsVE bmb = true)
    (x_sa : PySem.W.findIn K (.ref C_BadWheel) "__setattr__" = some (some (.builtin "object.__setattr__")))
    (x_ex : PySem.W.subIn K (.ref C_BadWheel) (.type "BaseException") = some true)
    (x_ty : PySem.W.typeIn K (.ref C_BadWheel) = some (.type "type"))
    (x_k : PySem.W.keepIn K (.ref C_BadWheel) = true)
    (x_tI : PySem.W.typeIn K (.ref f_BadWheel_init) = some (.type "function"))
    (x_no : PySem.W.findIn K (.ref C_BadWheel) "part" = some Option.none)
    (x_cl : PySem.W.isClsIn K C_BadWheel = true)
    (x_ga : PySem.W.findIn K (.ref C_BadWheel) "__getattribute__" = some (some (.builtin "BaseException.__getattribute__")))
    (x_gg : PySem.W.findIn K (.ref C_BadWheel) "__getattr__" = some Option.none)
    (x_hd : PySem.W.hasDictIn K C_BadWheel = true)
    (x_ha : PySem.W.findIn K (.ref C_BadWheel) "__class__" = some (some (.builtin "object.__class__")))
    (x_hn : PySem.W.specialIn K (.builtin "object.__class__") "__get__" = some (some (.builtin "getset_descriptor.__get__")))
    (x_ht : PySem.W.takesIn K (.builtin "object.__class__") = some true)
    (x_hm : PySem.W.mroIn K C_BadWheel (.type "object") = some true)
    (x_Rx : PySem.W.subIn K (.ref C_ReachError) (.type "BaseException") = some true)
    (x_Rh : PySem.W.hasDictIn K C_ReachError = true)
    (x_Rt : PySem.W.typeIn K (.ref C_ReachError) = some (.type "type"))
    (x_RC : PySem.W.subIn K (.ref C_BadWheel) (.ref C_ReachError) = some true)
    (x_k1 : PySem.W.kitOne K (.ref C_BadWheel) (.ref C_BadWheel) = some true)
    (x_k2 : PySem.W.kitOne K (.ref C_BadWheel) (.type "ValueError") = some true)
    (y_gfalse : PySem.W.specialIn K (.bool false) "__get__" = some none)
    (y_gtrue : PySem.W.specialIn K (.bool true) "__get__" = some none)
    (y_pg_trusted : PySem.W.specialIn K (.ref p_Wheel_trusted) "__get__" = some (some (.builtin "property.__get__")))
    (y_pt_trusted : PySem.W.takesIn K (.ref p_Wheel_trusted) = some true)
    (y_pg_play : PySem.W.specialIn K (.ref p_Wheel_play) "__get__" = some (some (.builtin "property.__get__")))
    (y_pt_play : PySem.W.takesIn K (.ref p_Wheel_play) = some true)
    (y_pg_never_parts : PySem.W.specialIn K (.ref p_Wheel_never_parts) "__get__" = some (some (.builtin "property.__get__")))
    (y_pt_never_parts : PySem.W.takesIn K (.ref p_Wheel_never_parts) = some true)
    (yWheel_cls : Cls K C_Wheel)
    (yWheel_n1 : NoAttr K C_Wheel "period")
    (yWheel_n2 : NoAttr K C_Wheel "back")
    (yWheel_n3 : NoAttr K C_Wheel "ahead")
    (yWheel_con : PySem.W.findIn K (.ref C_Wheel) "TRUSTED" = some (some (.bool false)))
    (yWheel_m1 : PySem.W.makesIn K C_Wheel = true)
    (yWheel_m3 : PySem.W.isFn K (.ref f_Wheel_init) = true)
    (yWheel_m4 : PySem.W.keepIn K (.ref C_Wheel) = true)
    (yWheel_eq : PySem.W.findIn K (.ref C_Wheel) "__eq__" = some (some (.ref f_Wheel_eq)))
    (yWheel_ha : PySem.W.findIn K (.ref C_Wheel) "__class__" = some (some (.builtin "object.__class__")))
    (yWheel_hm : PySem.W.mroIn K C_Wheel (.type "object") = some true)
    (yWheel_r1 : PySem.W.readsIn K C_Wheel (.type "type") = true)
    (yWheel_r2 : PySem.W.specialIn K (.ref C_Wheel) "__getattribute__" = some (some (.builtin "type.__getattribute__")))
    (yWheel_cv : PySem.W.findCls K (.ref C_Wheel) (.type "type") "TRUSTED" = some (.val (.bool false)))
    (yWheel_trusted : PySem.W.findIn K (.ref C_Wheel) "trusted" = some (some (.ref p_Wheel_trusted)))
    (yWheel_play : PySem.W.findIn K (.ref C_Wheel) "play" = some (some (.ref p_Wheel_play)))
    (yWheel_never_parts : PySem.W.findIn K (.ref C_Wheel) "never_parts" = some (some (.ref p_Wheel_never_parts)))
    (yWheel_kWheel : PySem.W.kitOne K (.ref C_Wheel) (.ref C_Wheel) = some true)
    (yWheel_kEven : PySem.W.kitOne K (.ref C_Wheel) (.ref C_Even) = some false)
    (yWheel_kExact : PySem.W.kitOne K (.ref C_Wheel) (.ref C_Exact) = some false)
    (yWheel_kLagging : PySem.W.kitOne K (.ref C_Wheel) (.ref C_Lagging) = some false)
    (yWheel_kGrid : PySem.W.kitOne K (.ref C_Wheel) (.ref C_Grid) = some false)
    (yWheel_fWheel : PySem.W.notFirst K C_Wheel (.ref C_Wheel) = true)
    (yWheel_sEven : PySem.W.subIn K (.ref C_Even) (.ref C_Wheel) = some true)
    (yWheel_dEven : (Value.ref C_Wheel != Value.ref C_Even) = true)
    (yWheel_sExact : PySem.W.subIn K (.ref C_Exact) (.ref C_Wheel) = some true)
    (yWheel_dExact : (Value.ref C_Wheel != Value.ref C_Exact) = true)
    (yWheel_sLagging : PySem.W.subIn K (.ref C_Lagging) (.ref C_Wheel) = some true)
    (yWheel_dLagging : (Value.ref C_Wheel != Value.ref C_Lagging) = true)
    (yWheel_sGrid : PySem.W.subIn K (.ref C_Grid) (.ref C_Wheel) = some true)
    (yWheel_dGrid : (Value.ref C_Wheel != Value.ref C_Grid) = true)
    (yWheel_ne : PySem.W.findIn K (.ref C_Wheel) "__ne__" = some (some (.builtin "object.__ne__")))
    (yWheel_feq : PySem.W.isFn K (.ref f_Wheel_eq) = true)
    (yWheel_fstr : PySem.W.isFn K (.ref f_Wheel_str) = true)
    (yWheel_oNoneType : PySem.W.notFirst K C_Wheel (.type "NoneType") = true)
    (yWheel_pNoneType : PySem.W.kitOne K (.type "NoneType") (.ref C_Wheel) = some false)
    (yWheel_oint : PySem.W.notFirst K C_Wheel (.type "int") = true)
    (yWheel_pint : PySem.W.kitOne K (.type "int") (.ref C_Wheel) = some false)
    (yWheel_otuple : PySem.W.notFirst K C_Wheel (.type "tuple") = true)
    (yWheel_ptuple : PySem.W.kitOne K (.type "tuple") (.ref C_Wheel) = some false)
    (yWheel_ostr : PySem.W.notFirst K C_Wheel (.type "str") = true)
    (yWheel_pstr : PySem.W.kitOne K (.type "str") (.ref C_Wheel) = some false)
    (yEven_cls : Cls K C_Even)
    (yEven_n1 : NoAttr K C_Even "period")
    (yEven_n2 : NoAttr K C_Even "back")
    (yEven_n3 : NoAttr K C_Even "ahead")
    (yEven_con : PySem.W.findIn K (.ref C_Even) "TRUSTED" = some (some (.bool false)))
    (yEven_m1 : PySem.W.makesIn K C_Even = true)
    (yEven_m3 : PySem.W.isFn K (.ref f_Even_init) = true)
    (yEven_m4 : PySem.W.keepIn K (.ref C_Even) = true)
    (yEven_eq : PySem.W.findIn K (.ref C_Even) "__eq__" = some (some (.ref f_Wheel_eq)))
    (yEven_ha : PySem.W.findIn K (.ref C_Even) "__class__" = some (some (.builtin "object.__class__")))
    (yEven_hm : PySem.W.mroIn K C_Even (.type "object") = some true)
    (yEven_r1 : PySem.W.readsIn K C_Even (.type "type") = true)
    (yEven_r2 : PySem.W.specialIn K (.ref C_Even) "__getattribute__" = some (some (.builtin "type.__getattribute__")))
    (yEven_cv : PySem.W.findCls K (.ref C_Even) (.type "type") "TRUSTED" = some (.val (.bool false)))
    (yEven_trusted : PySem.W.findIn K (.ref C_Even) "trusted" = some (some (.ref p_Wheel_trusted)))
    (yEven_play : PySem.W.findIn K (.ref C_Even) "play" = some (some (.ref p_Wheel_play)))
    (yEven_never_parts : PySem.W.findIn K (.ref C_Even) "never_parts" = some (some (.ref p_Wheel_never_parts)))
    (yEven_kWheel : PySem.W.kitOne K (.ref C_Even) (.ref C_Wheel) = some true)
    (yEven_kEven : PySem.W.kitOne K (.ref C_Even) (.ref C_Even) = some true)
    (yEven_kExact : PySem.W.kitOne K (.ref C_Even) (.ref C_Exact) = some false)
    (yEven_kLagging : PySem.W.kitOne K (.ref C_Even) (.ref C_Lagging) = some false)
    (yEven_kGrid : PySem.W.kitOne K (.ref C_Even) (.ref C_Grid) = some false)
    (yEven_fWheel : PySem.W.notFirst K C_Even (.ref C_Wheel) = true)
    (yEven_fEven : PySem.W.notFirst K C_Even (.ref C_Even) = true)
    (yEven_fExact : PySem.W.notFirst K C_Even (.ref C_Exact) = true)
    (yEven_fLagging : PySem.W.notFirst K C_Even (.ref C_Lagging) = true)
    (yEven_fGrid : PySem.W.notFirst K C_Even (.ref C_Grid) = true)
    (yEven_sub : PySem.W.mroIn K C_Even (.ref C_Even) = some true)
    (yEven_sup : PySem.W.ks_superIn K C_Even C_Even "__init__" = some (some (.ref f_Wheel_init)))
    (yExact_cls : Cls K C_Exact)
    (yExact_n1 : NoAttr K C_Exact "period")
    (yExact_n2 : NoAttr K C_Exact "back")
    (yExact_n3 : NoAttr K C_Exact "ahead")
    (yExact_con : PySem.W.findIn K (.ref C_Exact) "TRUSTED" = some (some (.bool false)))
    (yExact_m1 : PySem.W.makesIn K C_Exact = true)
    (yExact_m3 : PySem.W.isFn K (.ref f_Exact_init) = true)
    (yExact_m4 : PySem.W.keepIn K (.ref C_Exact) = true)
    (yExact_eq : PySem.W.findIn K (.ref C_Exact) "__eq__" = some (some (.ref f_Wheel_eq)))
    (yExact_ha : PySem.W.findIn K (.ref C_Exact) "__class__" = some (some (.builtin "object.__class__")))
    (yExact_hm : PySem.W.mroIn K C_Exact (.type "object") = some true)
    (yExact_r1 : PySem.W.readsIn K C_Exact (.type "type") = true)
    (yExact_r2 : PySem.W.specialIn K (.ref C_Exact) "__getattribute__" = some (some (.builtin "type.__getattribute__")))
    (yExact_cv : PySem.W.findCls K (.ref C_Exact) (.type "type") "TRUSTED" = some (.val (.bool false)))
    (yExact_trusted : PySem.W.findIn K (.ref C_Exact) "trusted" = some (some (.ref p_Wheel_trusted)))
    (yExact_play : PySem.W.findIn K (.ref C_Exact) "play" = some (some (.ref p_Wheel_play)))
    (yExact_never_parts : PySem.W.findIn K (.ref C_Exact) "never_parts" = some (some (.ref p_Wheel_never_parts)))
    (yExact_kWheel : PySem.W.kitOne K (.ref C_Exact) (.ref C_Wheel) = some true)
    (yExact_kEven : PySem.W.kitOne K (.ref C_Exact) (.ref C_Even) = some false)
    (yExact_kExact : PySem.W.kitOne K (.ref C_Exact) (.ref C_Exact) = some true)
    (yExact_kLagging : PySem.W.kitOne K (.ref C_Exact) (.ref C_Lagging) = some false)
    (yExact_kGrid : PySem.W.kitOne K (.ref C_Exact) (.ref C_Grid) = some false)
    (yExact_fWheel : PySem.W.notFirst K C_Exact (.ref C_Wheel) = true)
    (yExact_fEven : PySem.W.notFirst K C_Exact (.ref C_Even) = true)
    (yExact_fExact : PySem.W.notFirst K C_Exact (.ref C_Exact) = true)
    (yExact_fLagging : PySem.W.notFirst K C_Exact (.ref C_Lagging) = true)
    (yExact_fGrid : PySem.W.notFirst K C_Exact (.ref C_Grid) = true)
    (yExact_sub : PySem.W.mroIn K C_Exact (.ref C_Exact) = some true)
    (yExact_sup : PySem.W.ks_superIn K C_Exact C_Exact "__init__" = some (some (.ref f_Wheel_init)))
    (yLagging_cls : Cls K C_Lagging)
    (yLagging_n1 : NoAttr K C_Lagging "period")
    (yLagging_n2 : NoAttr K C_Lagging "back")
    (yLagging_n3 : NoAttr K C_Lagging "ahead")
    (yLagging_con : PySem.W.findIn K (.ref C_Lagging) "TRUSTED" = some (some (.bool false)))
    (yLagging_m1 : PySem.W.makesIn K C_Lagging = true)
    (yLagging_m3 : PySem.W.isFn K (.ref f_Lagging_init) = true)
    (yLagging_m4 : PySem.W.keepIn K (.ref C_Lagging) = true)
    (yLagging_eq : PySem.W.findIn K (.ref C_Lagging) "__eq__" = some (some (.ref f_Wheel_eq)))
    (yLagging_ha : PySem.W.findIn K (.ref C_Lagging) "__class__" = some (some (.builtin "object.__class__")))
    (yLagging_hm : PySem.W.mroIn K C_Lagging (.type "object") = some true)
    (yLagging_r1 : PySem.W.readsIn K C_Lagging (.type "type") = true)
    (yLagging_r2 : PySem.W.specialIn K (.ref C_Lagging) "__getattribute__" = some (some (.builtin "type.__getattribute__")))
    (yLagging_cv : PySem.W.findCls K (.ref C_Lagging) (.type "type") "TRUSTED" = some (.val (.bool false)))
    (yLagging_trusted : PySem.W.findIn K (.ref C_Lagging) "trusted" = some (some (.ref p_Wheel_trusted)))
    (yLagging_play : PySem.W.findIn K (.ref C_Lagging) "play" = some (some (.ref p_Wheel_play)))
    (yLagging_never_parts : PySem.W.findIn K (.ref C_Lagging) "never_parts" = some (some (.ref p_Wheel_never_parts)))
    (yLagging_kWheel : PySem.W.kitOne K (.ref C_Lagging) (.ref C_Wheel) = some true)
    (yLagging_kEven : PySem.W.kitOne K (.ref C_Lagging) (.ref C_Even) = some false)
    (yLagging_kExact : PySem.W.kitOne K (.ref C_Lagging) (.ref C_Exact) = some false)
    (yLagging_kLagging : PySem.W.kitOne K (.ref C_Lagging) (.ref C_Lagging) = some true)
    (yLagging_kGrid : PySem.W.kitOne K (.ref C_Lagging) (.ref C_Grid) = some false)
    (yLagging_fWheel : PySem.W.notFirst K C_Lagging (.ref C_Wheel) = true)
    (yLagging_fEven : PySem.W.notFirst K C_Lagging (.ref C_Even) = true)
    (yLagging_fExact : PySem.W.notFirst K C_Lagging (.ref C_Exact) = true)
    (yLagging_fLagging : PySem.W.notFirst K C_Lagging (.ref C_Lagging) = true)
    (yLagging_fGrid : PySem.W.notFirst K C_Lagging (.ref C_Grid) = true)
    (yLagging_sub : PySem.W.mroIn K C_Lagging (.ref C_Lagging) = some true)
    (yLagging_sup : PySem.W.ks_superIn K C_Lagging C_Lagging "__init__" = some (some (.ref f_Wheel_init)))
    (yGrid_cls : Cls K C_Grid)
    (yGrid_n1 : NoAttr K C_Grid "period")
    (yGrid_n2 : NoAttr K C_Grid "back")
    (yGrid_n3 : NoAttr K C_Grid "ahead")
    (yGrid_con : PySem.W.findIn K (.ref C_Grid) "TRUSTED" = some (some (.bool true)))
    (yGrid_m1 : PySem.W.makesIn K C_Grid = true)
    (yGrid_m3 : PySem.W.isFn K (.ref f_Grid_init) = true)
    (yGrid_m4 : PySem.W.keepIn K (.ref C_Grid) = true)
    (yGrid_eq : PySem.W.findIn K (.ref C_Grid) "__eq__" = some (some (.ref f_Wheel_eq)))
    (yGrid_ha : PySem.W.findIn K (.ref C_Grid) "__class__" = some (some (.builtin "object.__class__")))
    (yGrid_hm : PySem.W.mroIn K C_Grid (.type "object") = some true)
    (yGrid_r1 : PySem.W.readsIn K C_Grid (.type "type") = true)
    (yGrid_r2 : PySem.W.specialIn K (.ref C_Grid) "__getattribute__" = some (some (.builtin "type.__getattribute__")))
    (yGrid_cv : PySem.W.findCls K (.ref C_Grid) (.type "type") "TRUSTED" = some (.val (.bool true)))
    (yGrid_trusted : PySem.W.findIn K (.ref C_Grid) "trusted" = some (some (.ref p_Wheel_trusted)))
    (yGrid_play : PySem.W.findIn K (.ref C_Grid) "play" = some (some (.ref p_Wheel_play)))
    (yGrid_never_parts : PySem.W.findIn K (.ref C_Grid) "never_parts" = some (some (.ref p_Wheel_never_parts)))
    (yGrid_kWheel : PySem.W.kitOne K (.ref C_Grid) (.ref C_Wheel) = some true)
    (yGrid_kEven : PySem.W.kitOne K (.ref C_Grid) (.ref C_Even) = some false)
    (yGrid_kExact : PySem.W.kitOne K (.ref C_Grid) (.ref C_Exact) = some false)
    (yGrid_kLagging : PySem.W.kitOne K (.ref C_Grid) (.ref C_Lagging) = some false)
    (yGrid_kGrid : PySem.W.kitOne K (.ref C_Grid) (.ref C_Grid) = some true)
    (yGrid_fWheel : PySem.W.notFirst K C_Grid (.ref C_Wheel) = true)
    (yGrid_fEven : PySem.W.notFirst K C_Grid (.ref C_Even) = true)
    (yGrid_fExact : PySem.W.notFirst K C_Grid (.ref C_Exact) = true)
    (yGrid_fLagging : PySem.W.notFirst K C_Grid (.ref C_Lagging) = true)
    (yGrid_fGrid : PySem.W.notFirst K C_Grid (.ref C_Grid) = true)
    (yGrid_sub : PySem.W.mroIn K C_Grid (.ref C_Grid) = some true)
    (yGrid_sup : PySem.W.ks_superIn K C_Grid C_Grid "__init__" = some (some (.ref f_Wheel_init))) :
    LawG l w K 10 mg fa h := by
  have e := hfa.symm.trans (PySem.W.mg_of X G a_law)
  cases e
  obtain ⟨hP_refused_right, hd_refused_right⟩ := tabs "_law_refused_right" (by decide) f_refused_right cc_refused_right pp_refused_right _ _ _ _ _ _ (PySem.W.mg_of X G a_refused_right) l_refused_right rfl rfl t_refused_right p_refused_right
  have HP : PrF lawFile l.prog := ⟨x_pf, x_pt⟩
  let T : Txt K mg := { a_is_whole := f_is_whole, fd_is_whole := _, F_is_whole := fun_mk (st := s_is_whole) l_is_whole c_is_whole k_is_whole, m_is_whole := PySem.W.mg_of X G a_is_whole, a_is_between := f_is_between, fd_is_between := _, F_is_between := fun_mk (st := s_is_between) l_is_between c_is_between k_is_between, m_is_between := PySem.W.mg_of X G a_is_between, a_need_part := f_need_part, fd_need_part := _, F_need_part := fun_mk (st := s_need_part) l_need_part c_need_part k_need_part, m_need_part := PySem.W.mg_of X G a_need_part, a_pen := f_pen, fd_pen := _, F_pen := fun_mk (st := s_pen) l_pen c_pen k_pen, m_pen := PySem.W.mg_of X G a_pen, a_draw := f_draw, fd_draw := _, F_draw := fun_mk (st := s_draw) l_draw c_draw k_draw, m_draw := PySem.W.mg_of X G a_draw, a_pick := f_pick, fd_pick := _, F_pick := fun_mk (st := s_pick) l_pick c_pick k_pick, m_pick := PySem.W.mg_of X G a_pick, a_heard := f_heard, fd_heard := _, F_heard := fun_mk (st := s_heard) l_heard c_heard k_heard, m_heard := PySem.W.mg_of X G a_heard, a_part := f_part, fd_part := _, F_part := fun_mk (st := s_part) l_part c_part k_part, m_part := PySem.W.mg_of X G a_part, a_told_right := f_told_right, fd_told_right := _, F_told_right := fun_mk (st := s_told_right) l_told_right c_told_right k_told_right, m_told_right := PySem.W.mg_of X G a_told_right, a_classes := f_classes, fd_classes := _, F_classes := fun_mk (st := s_classes) l_classes c_classes k_classes, m_classes := PySem.W.mg_of X G a_classes, a_made_right := f_made_right, fd_made_right := _, F_made_right := fun_mk (st := s_made_right) l_made_right c_made_right k_made_right, m_made_right := PySem.W.mg_of X G a_made_right, a_refused_right := f_refused_right, fd_refused_right := _, F_refused_right := fun_mk (st := s_refused_right) l_refused_right c_refused_right k_refused_right, m_refused_right := PySem.W.mg_of X G a_refused_right, a_law := fa, fd_law := _, F_law := fun_mk (st := s_law) l_law c_law k_law, m_law := PySem.W.mg_of X G a_law, a_BadWheel_init := f_BadWheel_init, fd_BadWheel_init := _, F_BadWheel_init := fun_mk (st := s_BadWheel_init) l_BadWheel_init c_BadWheel_init k_BadWheel_init, a_Wheel_init := f_Wheel_init, fd_Wheel_init := _, F_Wheel_init := fun_mk (st := s_Wheel_init) l_Wheel_init c_Wheel_init k_Wheel_init, a_Wheel_trusted := f_Wheel_trusted, fd_Wheel_trusted := _, F_Wheel_trusted := fun_mk (st := s_Wheel_trusted) l_Wheel_trusted c_Wheel_trusted k_Wheel_trusted, a_Wheel_play := f_Wheel_play, fd_Wheel_play := _, F_Wheel_play := fun_mk (st := s_Wheel_play) l_Wheel_play c_Wheel_play k_Wheel_play, a_Wheel_never_parts := f_Wheel_never_parts, fd_Wheel_never_parts := _, F_Wheel_never_parts := fun_mk (st := s_Wheel_never_parts) l_Wheel_never_parts c_Wheel_never_parts k_Wheel_never_parts, a_Wheel_eq := f_Wheel_eq, fd_Wheel_eq := _, F_Wheel_eq := fun_mk (st := s_Wheel_eq) l_Wheel_eq c_Wheel_eq k_Wheel_eq, a_Wheel_str := f_Wheel_str, fd_Wheel_str := _, F_Wheel_str := fun_mk (st := s_Wheel_str) l_Wheel_str c_Wheel_str k_Wheel_str, a_Even_init := f_Even_init, cda_Even_init := ca_Even_init, cc_Even_init := cc_Even_init, fd_Even_init := _, F_Even_init := funS_mk (st := s_Even_init) l_Even_init c_Even_init k_Even_init, so_Even_init := ⟨⟨_, _, _, _, _, t_Even_init, p_Even_init⟩, ⟨_, _, _, y_Even_init⟩, ⟨_, w_Even_init⟩, PySem.W.mg_none_of X G z_super, x_any, x_sT, x_sF⟩, a_Exact_init := f_Exact_init, cda_Exact_init := ca_Exact_init, cc_Exact_init := cc_Exact_init, fd_Exact_init := _, F_Exact_init := funS_mk (st := s_Exact_init) l_Exact_init c_Exact_init k_Exact_init, so_Exact_init := ⟨⟨_, _, _, _, _, t_Exact_init, p_Exact_init⟩, ⟨_, _, _, y_Exact_init⟩, ⟨_, w_Exact_init⟩, PySem.W.mg_none_of X G z_super, x_any, x_sT, x_sF⟩, a_Lagging_init := f_Lagging_init, cda_Lagging_init := ca_Lagging_init, cc_Lagging_init := cc_Lagging_init, fd_Lagging_init := _, F_Lagging_init := funS_mk (st := s_Lagging_init) l_Lagging_init c_Lagging_init k_Lagging_init, so_Lagging_init := ⟨⟨_, _, _, _, _, t_Lagging_init, p_Lagging_init⟩, ⟨_, _, _, y_Lagging_init⟩, ⟨_, w_Lagging_init⟩, PySem.W.mg_none_of X G z_super, x_any, x_sT, x_sF⟩, a_Grid_init := f_Grid_init, cda_Grid_init := ca_Grid_init, cc_Grid_init := cc_Grid_init, fd_Grid_init := _, F_Grid_init := funS_mk (st := s_Grid_init) l_Grid_init c_Grid_init k_Grid_init, so_Grid_init := ⟨⟨_, _, _, _, _, t_Grid_init, p_Grid_init⟩, ⟨_, _, _, y_Grid_init⟩, ⟨_, w_Grid_init⟩, PySem.W.mg_none_of X G z_super, x_any, x_sT, x_sF⟩, n_ValueError := PySem.W.mg_none_of X G z_ValueError, n_abs := PySem.W.mg_none_of X G z_abs, n_bool := PySem.W.mg_none_of X G z_bool, n_int := PySem.W.mg_none_of X G z_int, n_isinstance := PySem.W.mg_none_of X G z_isinstance, n_len := PySem.W.mg_none_of X G z_len, n_list := PySem.W.mg_none_of X G z_list, n_property := PySem.W.mg_none_of X G z_property, n_range := PySem.W.mg_none_of X G z_range, n_repr := PySem.W.mg_none_of X G z_repr, n_staticmethod := PySem.W.mg_none_of X G z_staticmethod, n_str := PySem.W.mg_none_of X G z_str, n_super := PySem.W.mg_none_of X G z_super, n_zip := PySem.W.mg_none_of X G z_zip, a_Wheel := C_Wheel, m_Wheel := PySem.W.mg_of X G x_Wheel, a_Even := C_Even, m_Even := PySem.W.mg_of X G x_Even, a_Exact := C_Exact, m_Exact := PySem.W.mg_of X G x_Exact, a_Lagging := C_Lagging, m_Lagging := PySem.W.mg_of X G x_Lagging, a_Grid := C_Grid, m_Grid := PySem.W.mg_of X G x_Grid, p_trusted := p_Wheel_trusted, p_play := p_Wheel_play, p_never_parts := p_Wheel_never_parts, u_MP := .int 1000000000000 tM, m_MP := PySem.W.mg_of X G x_MP, r_MP := ⟨_, rfl⟩, bad := { C := C_BadWheel, f := f_BadWheel_init, fd := _, oex := ⟨⟨_, _, _, _, _, _, _, _, _, _, _, _, _, _, _, x_L, x_b⟩, x_sa, x_ex, x_ty, x_k⟩, iC := a_BadWheel_init, tI := x_tI, F := fun_mk (st := s_BadWheel_init) l_BadWheel_init c_BadWheel_init k_BadWheel_init, no := x_no, m := PySem.W.mg_of X G x_C } }
  have W : Whl T := {
    W := { w := { w := ⟨yWheel_cls, fun y hy => by simp only [List.mem_cons, List.not_mem_nil, or_false] at hy; rcases hy with rfl | rfl | rfl; exact yWheel_n1; exact yWheel_n2; exact yWheel_n3⟩, con := ⟨.bool false, yWheel_con, rfl, y_gfalse, by decide⟩, play := ⟨yWheel_play, y_pg_play, y_pt_play, ⟨_, r_Wheel_play⟩⟩, trusted := ⟨yWheel_trusted, y_pg_trusted, y_pt_trusted, ⟨_, r_Wheel_trusted⟩⟩, never := ⟨yWheel_never_parts, y_pg_never_parts, y_pt_never_parts, ⟨_, r_Wheel_never_parts⟩⟩ }, k := { ty := fun H a dx fs e => .base (.ins e yWheel_cls yWheel_ha x_hn x_ht yWheel_hm), w := yWheel_kWheel, e := yWheel_kEven, x := yWheel_kExact, l := yWheel_kLagging, g := yWheel_kGrid }, mkr := ⟨yWheel_m1, a_Wheel_init, yWheel_m3, yWheel_m4⟩, eq := yWheel_eq }
    E := { w := { w := ⟨yEven_cls, fun y hy => by simp only [List.mem_cons, List.not_mem_nil, or_false] at hy; rcases hy with rfl | rfl | rfl; exact yEven_n1; exact yEven_n2; exact yEven_n3⟩, con := ⟨.bool false, yEven_con, rfl, y_gfalse, by decide⟩, play := ⟨yEven_play, y_pg_play, y_pt_play, ⟨_, r_Wheel_play⟩⟩, trusted := ⟨yEven_trusted, y_pg_trusted, y_pt_trusted, ⟨_, r_Wheel_trusted⟩⟩, never := ⟨yEven_never_parts, y_pg_never_parts, y_pt_never_parts, ⟨_, r_Wheel_never_parts⟩⟩ }, k := { ty := fun H a dx fs e => .base (.ins e yEven_cls yEven_ha x_hn x_ht yEven_hm), w := yEven_kWheel, e := yEven_kEven, x := yEven_kExact, l := yEven_kLagging, g := yEven_kGrid }, mkr := ⟨yEven_m1, a_Even_init, yEven_m3, yEven_m4⟩, eq := yEven_eq }
    X := { w := { w := ⟨yExact_cls, fun y hy => by simp only [List.mem_cons, List.not_mem_nil, or_false] at hy; rcases hy with rfl | rfl | rfl; exact yExact_n1; exact yExact_n2; exact yExact_n3⟩, con := ⟨.bool false, yExact_con, rfl, y_gfalse, by decide⟩, play := ⟨yExact_play, y_pg_play, y_pt_play, ⟨_, r_Wheel_play⟩⟩, trusted := ⟨yExact_trusted, y_pg_trusted, y_pt_trusted, ⟨_, r_Wheel_trusted⟩⟩, never := ⟨yExact_never_parts, y_pg_never_parts, y_pt_never_parts, ⟨_, r_Wheel_never_parts⟩⟩ }, k := { ty := fun H a dx fs e => .base (.ins e yExact_cls yExact_ha x_hn x_ht yExact_hm), w := yExact_kWheel, e := yExact_kEven, x := yExact_kExact, l := yExact_kLagging, g := yExact_kGrid }, mkr := ⟨yExact_m1, a_Exact_init, yExact_m3, yExact_m4⟩, eq := yExact_eq }
    L := { w := { w := ⟨yLagging_cls, fun y hy => by simp only [List.mem_cons, List.not_mem_nil, or_false] at hy; rcases hy with rfl | rfl | rfl; exact yLagging_n1; exact yLagging_n2; exact yLagging_n3⟩, con := ⟨.bool false, yLagging_con, rfl, y_gfalse, by decide⟩, play := ⟨yLagging_play, y_pg_play, y_pt_play, ⟨_, r_Wheel_play⟩⟩, trusted := ⟨yLagging_trusted, y_pg_trusted, y_pt_trusted, ⟨_, r_Wheel_trusted⟩⟩, never := ⟨yLagging_never_parts, y_pg_never_parts, y_pt_never_parts, ⟨_, r_Wheel_never_parts⟩⟩ }, k := { ty := fun H a dx fs e => .base (.ins e yLagging_cls yLagging_ha x_hn x_ht yLagging_hm), w := yLagging_kWheel, e := yLagging_kEven, x := yLagging_kExact, l := yLagging_kLagging, g := yLagging_kGrid }, mkr := ⟨yLagging_m1, a_Lagging_init, yLagging_m3, yLagging_m4⟩, eq := yLagging_eq }
    G := { w := { w := ⟨yGrid_cls, fun y hy => by simp only [List.mem_cons, List.not_mem_nil, or_false] at hy; rcases hy with rfl | rfl | rfl; exact yGrid_n1; exact yGrid_n2; exact yGrid_n3⟩, con := ⟨.bool true, yGrid_con, rfl, y_gtrue, by decide⟩, play := ⟨yGrid_play, y_pg_play, y_pt_play, ⟨_, r_Wheel_play⟩⟩, trusted := ⟨yGrid_trusted, y_pg_trusted, y_pt_trusted, ⟨_, r_Wheel_trusted⟩⟩, never := ⟨yGrid_never_parts, y_pg_never_parts, y_pt_never_parts, ⟨_, r_Wheel_never_parts⟩⟩ }, k := { ty := fun H a dx fs e => .base (.ins e yGrid_cls yGrid_ha x_hn x_ht yGrid_hm), w := yGrid_kWheel, e := yGrid_kEven, x := yGrid_kExact, l := yGrid_kLagging, g := yGrid_kGrid }, mkr := ⟨yGrid_m1, a_Grid_init, yGrid_m3, yGrid_m4⟩, eq := yGrid_eq }
    sE := ⟨yEven_sub, yEven_sup, ⟨_, w_Even_init⟩⟩
    sX := ⟨yExact_sub, yExact_sup, ⟨_, w_Exact_init⟩⟩
    sL := ⟨yLagging_sub, yLagging_sup, ⟨_, w_Lagging_init⟩⟩
    sG := ⟨yGrid_sub, yGrid_sup, ⟨_, w_Grid_init⟩⟩
    fn := yWheel_feq
    mro_o := yWheel_hm
    ne := yWheel_ne
    str := a_Wheel_str
    fnS := yWheel_fstr
    no := fun t ht => by
      simp only [List.mem_cons, List.not_mem_nil, or_false] at ht
      rcases ht with rfl | rfl | rfl | rfl
      · exact ⟨yWheel_oNoneType, yWheel_pNoneType⟩
      · exact ⟨yWheel_oint, yWheel_pint⟩
      · exact ⟨yWheel_otuple, yWheel_ptuple⟩
      · exact ⟨yWheel_ostr, yWheel_pstr⟩
    ord := fun C hC C2 hC2 => by
      simp only [List.mem_cons, List.not_mem_nil, or_false] at hC hC2
      rcases hC with rfl | rfl | rfl | rfl | rfl <;> rcases hC2 with rfl | rfl | rfl | rfl | rfl
      · exact .inl yWheel_fWheel
      · exact .inr ⟨yWheel_sEven, yWheel_dEven⟩
      · exact .inr ⟨yWheel_sExact, yWheel_dExact⟩
      · exact .inr ⟨yWheel_sLagging, yWheel_dLagging⟩
      · exact .inr ⟨yWheel_sGrid, yWheel_dGrid⟩
      · exact .inl yEven_fWheel
      · exact .inl yEven_fEven
      · exact .inl yEven_fExact
      · exact .inl yEven_fLagging
      · exact .inl yEven_fGrid
      · exact .inl yExact_fWheel
      · exact .inl yExact_fEven
      · exact .inl yExact_fExact
      · exact .inl yExact_fLagging
      · exact .inl yExact_fGrid
      · exact .inl yLagging_fWheel
      · exact .inl yLagging_fEven
      · exact .inl yLagging_fExact
      · exact .inl yLagging_fLagging
      · exact .inl yLagging_fGrid
      · exact .inl yGrid_fWheel
      · exact .inl yGrid_fEven
      · exact .inl yGrid_fExact
      · exact .inl yGrid_fLagging
      · exact .inl yGrid_fGrid
    cv := fun q hq => by
      simp only [List.mem_cons, List.not_mem_nil, or_false] at hq
      rcases hq with rfl | rfl | rfl | rfl | rfl
      · exact ⟨⟨yWheel_r1, yWheel_r2⟩, .bool false, yWheel_cv, rfl⟩
      · exact ⟨⟨yEven_r1, yEven_r2⟩, .bool false, yEven_cv, rfl⟩
      · exact ⟨⟨yExact_r1, yExact_r2⟩, .bool false, yExact_cv, rfl⟩
      · exact ⟨⟨yLagging_r1, yLagging_r2⟩, .bool false, yLagging_cv, rfl⟩
      · exact ⟨⟨yGrid_r1, yGrid_r2⟩, .bool true, yGrid_cv, rfl⟩
  }
  have B : Caught K mg T.bad.C := { R := C_ReachError, m_R := PySem.W.mg_of X G x_R, ex := PySem.W.exm_ref x_Rx x_Rh x_Rt x_RC, err := ⟨x_cl, x_ga, x_gg, x_ex, x_hd, x_ha, x_hn, x_ht, x_hm⟩, k1 := x_k1, k2 := x_k2 }
  refine ⟨[(cc_refused_right, pp_refused_right)], spLaw K pp_refused_right, fun p hp => ?_, fun p hp => ?_, fun p hp => ?_, fun H a ns hl hb tt hS => ⟨a, ns, rfl, hS, hl, fun p hp => ?_, fun _ => rfl⟩, fun base KB NB TBs => ?_⟩
  · rw [List.mem_singleton.mp hp]; exact hP_refused_right
  · rw [List.mem_singleton.mp hp]; exact q_refused_right
  · rw [List.mem_singleton.mp hp]; exact hd_refused_right
  · rw [List.mem_singleton.mp hp]; exact LamX.TabS.nil (tt (cc_refused_right, pp_refused_right) List.mem_cons_self)
  · exact ok_law HP T W B l_refused_right c_refused_right (TBs (cc_refused_right, pp_refused_right) List.mem_cons_self)
end My
open PySem PySem.W PyProof.Rows in
set_option maxRecDepth 100000 in
set_option maxHeartbeats 0 in
theorem PySem.Challenge.cw_wheelreach_k22_wheels_made_and_refused_holds : PySem.Challenge.rw_wheelreach_k22_wheels_made_and_refused.Holds := by
  w_on; o_law; k_head; (case hw => w_witness2)
  k_fill
  refine My.walkG (l := PySem.Challenge.rw_wheelreach_k22_wheels_made_and_refused) (k := 10) ["_law_refused_right"] (by decide +kernel) rfl rfl ⟨rfl, by decide, by decide⟩ (fun w h Y => PySem.W.km_in_of Y) ?F
  case F =>
    intro w mg fa h KX G hmg tabs
    refine' My.all_mk KX G hmg tabs ?a_is_whole ?l_is_whole ?c_is_whole ?k_is_whole ?a_is_between ?l_is_between ?c_is_between ?k_is_between ?a_need_part ?l_need_part ?c_need_part ?k_need_part ?a_pen ?l_pen ?c_pen ?k_pen ?a_draw ?l_draw ?c_draw ?k_draw ?a_pick ?l_pick ?c_pick ?k_pick ?a_heard ?l_heard ?c_heard ?k_heard ?a_part ?l_part ?c_part ?k_part ?a_told_right ?l_told_right ?c_told_right ?k_told_right ?a_classes ?l_classes ?c_classes ?k_classes ?a_made_right ?l_made_right ?c_made_right ?k_made_right ?a_refused_right ?l_refused_right ?c_refused_right ?k_refused_right ?a_law ?l_law ?c_law ?k_law ?a_BadWheel_init ?l_BadWheel_init ?c_BadWheel_init ?k_BadWheel_init ?a_Wheel_init ?l_Wheel_init ?c_Wheel_init ?k_Wheel_init ?a_Wheel_trusted ?r_Wheel_trusted ?l_Wheel_trusted ?c_Wheel_trusted ?k_Wheel_trusted ?a_Wheel_play ?r_Wheel_play ?l_Wheel_play ?c_Wheel_play ?k_Wheel_play ?a_Wheel_never_parts ?r_Wheel_never_parts ?l_Wheel_never_parts ?c_Wheel_never_parts ?k_Wheel_never_parts ?a_Wheel_eq ?l_Wheel_eq ?c_Wheel_eq ?k_Wheel_eq ?a_Wheel_str ?l_Wheel_str ?c_Wheel_str ?k_Wheel_str ?a_Even_init ?l_Even_init ?c_Even_init ?k_Even_init ?t_Even_init ?p_Even_init ?y_Even_init ?w_Even_init ?a_Exact_init ?l_Exact_init ?c_Exact_init ?k_Exact_init ?t_Exact_init ?p_Exact_init ?y_Exact_init ?w_Exact_init ?a_Lagging_init ?l_Lagging_init ?c_Lagging_init ?k_Lagging_init ?t_Lagging_init ?p_Lagging_init ?y_Lagging_init ?w_Lagging_init ?a_Grid_init ?l_Grid_init ?c_Grid_init ?k_Grid_init ?t_Grid_init ?p_Grid_init ?y_Grid_init ?w_Grid_init ?z_ValueError ?z_abs ?z_bool ?z_int ?z_isinstance ?z_len ?z_list ?z_property ?z_range ?z_repr ?z_staticmethod ?z_str ?z_super ?z_zip ?t_refused_right ?p_refused_right ?q_refused_right ?x_C ?x_R ?x_MP ?x_Wheel ?x_Even ?x_Exact ?x_Lagging ?x_Grid ?x_pf ?x_pt ?x_any ?x_sT ?x_sF ?x_L ?x_b ?x_sa ?x_ex ?x_ty ?x_k ?x_tI ?x_no ?x_cl ?x_ga ?x_gg ?x_hd ?x_ha ?x_hn ?x_ht ?x_hm ?x_Rx ?x_Rh ?x_Rt ?x_RC ?x_k1 ?x_k2 ?y_gfalse ?y_gtrue ?y_pg_trusted ?y_pt_trusted ?y_pg_play ?y_pt_play ?y_pg_never_parts ?y_pt_never_parts ?yWheel_cls ?yWheel_n1 ?yWheel_n2 ?yWheel_n3 ?yWheel_con ?yWheel_m1 ?yWheel_m3 ?yWheel_m4 ?yWheel_eq ?yWheel_ha ?yWheel_hm ?yWheel_r1 ?yWheel_r2 ?yWheel_cv ?yWheel_trusted ?yWheel_play ?yWheel_never_parts ?yWheel_kWheel ?yWheel_kEven ?yWheel_kExact ?yWheel_kLagging ?yWheel_kGrid ?yWheel_fWheel ?yWheel_sEven ?yWheel_dEven ?yWheel_sExact ?yWheel_dExact ?yWheel_sLagging ?yWheel_dLagging ?yWheel_sGrid ?yWheel_dGrid ?yWheel_ne ?yWheel_feq ?yWheel_fstr ?yWheel_oNoneType ?yWheel_pNoneType ?yWheel_oint ?yWheel_pint ?yWheel_otuple ?yWheel_ptuple ?yWheel_ostr ?yWheel_pstr ?yEven_cls ?yEven_n1 ?yEven_n2 ?yEven_n3 ?yEven_con ?yEven_m1 ?yEven_m3 ?yEven_m4 ?yEven_eq ?yEven_ha ?yEven_hm ?yEven_r1 ?yEven_r2 ?yEven_cv ?yEven_trusted ?yEven_play ?yEven_never_parts ?yEven_kWheel ?yEven_kEven ?yEven_kExact ?yEven_kLagging ?yEven_kGrid ?yEven_fWheel ?yEven_fEven ?yEven_fExact ?yEven_fLagging ?yEven_fGrid ?yEven_sub ?yEven_sup ?yExact_cls ?yExact_n1 ?yExact_n2 ?yExact_n3 ?yExact_con ?yExact_m1 ?yExact_m3 ?yExact_m4 ?yExact_eq ?yExact_ha ?yExact_hm ?yExact_r1 ?yExact_r2 ?yExact_cv ?yExact_trusted ?yExact_play ?yExact_never_parts ?yExact_kWheel ?yExact_kEven ?yExact_kExact ?yExact_kLagging ?yExact_kGrid ?yExact_fWheel ?yExact_fEven ?yExact_fExact ?yExact_fLagging ?yExact_fGrid ?yExact_sub ?yExact_sup ?yLagging_cls ?yLagging_n1 ?yLagging_n2 ?yLagging_n3 ?yLagging_con ?yLagging_m1 ?yLagging_m3 ?yLagging_m4 ?yLagging_eq ?yLagging_ha ?yLagging_hm ?yLagging_r1 ?yLagging_r2 ?yLagging_cv ?yLagging_trusted ?yLagging_play ?yLagging_never_parts ?yLagging_kWheel ?yLagging_kEven ?yLagging_kExact ?yLagging_kLagging ?yLagging_kGrid ?yLagging_fWheel ?yLagging_fEven ?yLagging_fExact ?yLagging_fLagging ?yLagging_fGrid ?yLagging_sub ?yLagging_sup ?yGrid_cls ?yGrid_n1 ?yGrid_n2 ?yGrid_n3 ?yGrid_con ?yGrid_m1 ?yGrid_m3 ?yGrid_m4 ?yGrid_eq ?yGrid_ha ?yGrid_hm ?yGrid_r1 ?yGrid_r2 ?yGrid_cv ?yGrid_trusted ?yGrid_play ?yGrid_never_parts ?yGrid_kWheel ?yGrid_kEven ?yGrid_kExact ?yGrid_kLagging ?yGrid_kGrid ?yGrid_fWheel ?yGrid_fEven ?yGrid_fExact ?yGrid_fLagging ?yGrid_fGrid ?yGrid_sub ?yGrid_sup
    (case x_C => k_is)
    (case x_R => k_is)
    (case x_MP => k_is)
    (case x_Wheel => k_is)
    (case x_Even => k_is)
    (case x_Exact => k_is)
    (case x_Lagging => k_is)
    (case x_Grid => k_is)
    (case a_is_whole => k_is)
    (case l_is_whole => k_is)
    (case c_is_whole => k_is)
    (case k_is_whole => k_is)
    (case a_is_between => k_is)
    (case l_is_between => k_is)
    (case c_is_between => k_is)
    (case k_is_between => k_is)
    (case a_need_part => k_is)
    (case l_need_part => k_is)
    (case c_need_part => k_is)
    (case k_need_part => k_is)
    (case a_pen => k_is)
    (case l_pen => k_is)
    (case c_pen => k_is)
    (case k_pen => k_is)
    (case a_draw => k_is)
    (case l_draw => k_is)
    (case c_draw => k_is)
    (case k_draw => k_is)
    (case a_pick => k_is)
    (case l_pick => k_is)
    (case c_pick => k_is)
    (case k_pick => k_is)
    (case a_heard => k_is)
    (case l_heard => k_is)
    (case c_heard => k_is)
    (case k_heard => k_is)
    (case a_part => k_is)
    (case l_part => k_is)
    (case c_part => k_is)
    (case k_part => k_is)
    (case a_told_right => k_is)
    (case l_told_right => k_is)
    (case c_told_right => k_is)
    (case k_told_right => k_is)
    (case a_classes => k_is)
    (case l_classes => k_is)
    (case c_classes => k_is)
    (case k_classes => k_is)
    (case a_made_right => k_is)
    (case l_made_right => k_is)
    (case c_made_right => k_is)
    (case k_made_right => k_is)
    (case a_refused_right => k_is)
    (case l_refused_right => k_is)
    (case c_refused_right => k_is)
    (case k_refused_right => k_is)
    (case a_law => k_is)
    (case l_law => k_is)
    (case c_law => k_is)
    (case k_law => k_is)
    (case a_BadWheel_init => k_is)
    (case l_BadWheel_init => k_is)
    (case c_BadWheel_init => k_is)
    (case k_BadWheel_init => k_is)
    (case a_Wheel_init => k_is)
    (case l_Wheel_init => k_is)
    (case c_Wheel_init => k_is)
    (case k_Wheel_init => k_is)
    (case a_Wheel_trusted => k_is)
    (case r_Wheel_trusted => k_is)
    (case l_Wheel_trusted => k_is)
    (case c_Wheel_trusted => k_is)
    (case k_Wheel_trusted => k_is)
    (case a_Wheel_play => k_is)
    (case r_Wheel_play => k_is)
    (case l_Wheel_play => k_is)
    (case c_Wheel_play => k_is)
    (case k_Wheel_play => k_is)
    (case a_Wheel_never_parts => k_is)
    (case r_Wheel_never_parts => k_is)
    (case l_Wheel_never_parts => k_is)
    (case c_Wheel_never_parts => k_is)
    (case k_Wheel_never_parts => k_is)
    (case a_Wheel_eq => k_is)
    (case l_Wheel_eq => k_is)
    (case c_Wheel_eq => k_is)
    (case k_Wheel_eq => k_is)
    (case a_Wheel_str => k_is)
    (case l_Wheel_str => k_is)
    (case c_Wheel_str => k_is)
    (case k_Wheel_str => k_is)
    (case a_Even_init => k_is)
    (case l_Even_init => k_is)
    (case c_Even_init => k_is)
    (case k_Even_init => k_is)
    (case t_Even_init => k_is)
    (case p_Even_init => first | rfl | k_is | decide +kernel)
    (case y_Even_init => k_is)
    (case w_Even_init => k_is)
    (case a_Exact_init => k_is)
    (case l_Exact_init => k_is)
    (case c_Exact_init => k_is)
    (case k_Exact_init => k_is)
    (case t_Exact_init => k_is)
    (case p_Exact_init => first | rfl | k_is | decide +kernel)
    (case y_Exact_init => k_is)
    (case w_Exact_init => k_is)
    (case a_Lagging_init => k_is)
    (case l_Lagging_init => k_is)
    (case c_Lagging_init => k_is)
    (case k_Lagging_init => k_is)
    (case t_Lagging_init => k_is)
    (case p_Lagging_init => first | rfl | k_is | decide +kernel)
    (case y_Lagging_init => k_is)
    (case w_Lagging_init => k_is)
    (case a_Grid_init => k_is)
    (case l_Grid_init => k_is)
    (case c_Grid_init => k_is)
    (case k_Grid_init => k_is)
    (case t_Grid_init => k_is)
    (case p_Grid_init => first | rfl | k_is | decide +kernel)
    (case y_Grid_init => k_is)
    (case w_Grid_init => k_is)
    (case z_ValueError => k_is)
    (case z_abs => k_is)
    (case z_bool => k_is)
    (case z_int => k_is)
    (case z_isinstance => k_is)
    (case z_len => k_is)
    (case z_list => k_is)
    (case z_property => k_is)
    (case z_range => k_is)
    (case z_repr => k_is)
    (case z_staticmethod => k_is)
    (case z_str => k_is)
    (case z_super => k_is)
    (case z_zip => k_is)
    (case t_refused_right => k_is)
    (case p_refused_right => first | rfl | k_is | decide +kernel)
    (case q_refused_right => first | k_is | rfl | decide +kernel)
    (case x_pf => first | rfl | decide +kernel)
    (case x_pt => first | rfl | decide +kernel)
    (case x_any => first | k_is | rfl | decide +kernel)
    (case x_sT => first | k_is | rfl | decide +kernel)
    (case x_sF => first | k_is | rfl | decide +kernel)
    (case x_L => k_is)
    (case x_b => first | rfl | decide +kernel)
    (case x_sa => k_is)
    (case x_ex => k_is)
    (case x_ty => k_is)
    (case x_k => k_is)
    (case x_tI => k_is)
    (case x_no => k_is)
    (case x_cl => k_is)
    (case x_ga => k_is)
    (case x_gg => k_is)
    (case x_hd => k_is)
    (case x_ha => k_is)
    (case x_hn => k_is)
    (case x_ht => k_is)
    (case x_hm => k_is)
    (case x_Rx => k_is)
    (case x_Rh => k_is)
    (case x_Rt => k_is)
    (case x_RC => first | k_is | rfl | decide +kernel)
    (case x_k1 => first | k_is | rfl | decide +kernel)
    (case x_k2 => first | k_is | rfl | decide +kernel)
    (case y_gfalse => first | k_is | rfl | decide +kernel)
    (case y_gtrue => first | k_is | rfl | decide +kernel)
    (case y_pg_trusted => first | k_is | rfl | decide +kernel)
    (case y_pt_trusted => first | k_is | rfl | decide +kernel)
    (case y_pg_play => first | k_is | rfl | decide +kernel)
    (case y_pt_play => first | k_is | rfl | decide +kernel)
    (case y_pg_never_parts => first | k_is | rfl | decide +kernel)
    (case y_pt_never_parts => first | k_is | rfl | decide +kernel)
    (case yWheel_cls => exact ⟨by k_is, by k_is, by k_is, by k_is⟩)
    (case yWheel_n1 => show PySem.W.findIn _ _ _ = _; k_is)
    (case yWheel_n2 => show PySem.W.findIn _ _ _ = _; k_is)
    (case yWheel_n3 => show PySem.W.findIn _ _ _ = _; k_is)
    (case yWheel_con => first | k_is | rfl | decide +kernel)
    (case yWheel_m1 => first | k_is | rfl | decide +kernel)
    (case yWheel_m3 => first | k_is | rfl | decide +kernel)
    (case yWheel_m4 => first | k_is | rfl | decide +kernel)
    (case yWheel_eq => first | k_is | rfl | decide +kernel)
    (case yWheel_ha => first | k_is | rfl | decide +kernel)
    (case yWheel_hm => first | k_is | rfl | decide +kernel)
    (case yWheel_r1 => first | k_is | rfl | decide +kernel)
    (case yWheel_r2 => first | k_is | rfl | decide +kernel)
    (case yWheel_cv => first | k_is | rfl | decide +kernel)
    (case yWheel_trusted => first | k_is | rfl | decide +kernel)
    (case yWheel_play => first | k_is | rfl | decide +kernel)
    (case yWheel_never_parts => first | k_is | rfl | decide +kernel)
    (case yWheel_kWheel => first | k_is | rfl | decide +kernel)
    (case yWheel_kEven => first | k_is | rfl | decide +kernel)
    (case yWheel_kExact => first | k_is | rfl | decide +kernel)
    (case yWheel_kLagging => first | k_is | rfl | decide +kernel)
    (case yWheel_kGrid => first | k_is | rfl | decide +kernel)
    (case yWheel_fWheel => first | k_is | rfl | decide +kernel)
    (case yWheel_sEven => first | k_is | rfl | decide +kernel)
    (case yWheel_dEven => first | k_is | rfl | decide +kernel)
    (case yWheel_sExact => first | k_is | rfl | decide +kernel)
    (case yWheel_dExact => first | k_is | rfl | decide +kernel)
    (case yWheel_sLagging => first | k_is | rfl | decide +kernel)
    (case yWheel_dLagging => first | k_is | rfl | decide +kernel)
    (case yWheel_sGrid => first | k_is | rfl | decide +kernel)
    (case yWheel_dGrid => first | k_is | rfl | decide +kernel)
    (case yWheel_ne => first | k_is | rfl | decide +kernel)
    (case yWheel_feq => first | k_is | rfl | decide +kernel)
    (case yWheel_fstr => first | k_is | rfl | decide +kernel)
    (case yWheel_oNoneType => first | k_is | rfl | decide +kernel)
    (case yWheel_pNoneType => first | k_is | rfl | decide +kernel)
    (case yWheel_oint => first | k_is | rfl | decide +kernel)
    (case yWheel_pint => first | k_is | rfl | decide +kernel)
    (case yWheel_otuple => first | k_is | rfl | decide +kernel)
    (case yWheel_ptuple => first | k_is | rfl | decide +kernel)
    (case yWheel_ostr => first | k_is | rfl | decide +kernel)
    (case yWheel_pstr => first | k_is | rfl | decide +kernel)
    (case yEven_cls => exact ⟨by k_is, by k_is, by k_is, by k_is⟩)
    (case yEven_n1 => show PySem.W.findIn _ _ _ = _; k_is)
    (case yEven_n2 => show PySem.W.findIn _ _ _ = _; k_is)
    (case yEven_n3 => show PySem.W.findIn _ _ _ = _; k_is)
    (case yEven_con => first | k_is | rfl | decide +kernel)
    (case yEven_m1 => first | k_is | rfl | decide +kernel)
    (case yEven_m3 => first | k_is | rfl | decide +kernel)
    (case yEven_m4 => first | k_is | rfl | decide +kernel)
    (case yEven_eq => first | k_is | rfl | decide +kernel)
    (case yEven_ha => first | k_is | rfl | decide +kernel)
    (case yEven_hm => first | k_is | rfl | decide +kernel)
    (case yEven_r1 => first | k_is | rfl | decide +kernel)
    (case yEven_r2 => first | k_is | rfl | decide +kernel)
    (case yEven_cv => first | k_is | rfl | decide +kernel)
    (case yEven_trusted => first | k_is | rfl | decide +kernel)
    (case yEven_play => first | k_is | rfl | decide +kernel)
    (case yEven_never_parts => first | k_is | rfl | decide +kernel)
    (case yEven_kWheel => first | k_is | rfl | decide +kernel)
    (case yEven_kEven => first | k_is | rfl | decide +kernel)
    (case yEven_kExact => first | k_is | rfl | decide +kernel)
    (case yEven_kLagging => first | k_is | rfl | decide +kernel)
    (case yEven_kGrid => first | k_is | rfl | decide +kernel)
    (case yEven_fWheel => first | k_is | rfl | decide +kernel)
    (case yEven_fEven => first | k_is | rfl | decide +kernel)
    (case yEven_fExact => first | k_is | rfl | decide +kernel)
    (case yEven_fLagging => first | k_is | rfl | decide +kernel)
    (case yEven_fGrid => first | k_is | rfl | decide +kernel)
    (case yEven_sub => first | k_is | rfl | decide +kernel)
    (case yEven_sup => first | k_is | rfl | decide +kernel)
    (case yExact_cls => exact ⟨by k_is, by k_is, by k_is, by k_is⟩)
    (case yExact_n1 => show PySem.W.findIn _ _ _ = _; k_is)
    (case yExact_n2 => show PySem.W.findIn _ _ _ = _; k_is)
    (case yExact_n3 => show PySem.W.findIn _ _ _ = _; k_is)
    (case yExact_con => first | k_is | rfl | decide +kernel)
    (case yExact_m1 => first | k_is | rfl | decide +kernel)
    (case yExact_m3 => first | k_is | rfl | decide +kernel)
    (case yExact_m4 => first | k_is | rfl | decide +kernel)
    (case yExact_eq => first | k_is | rfl | decide +kernel)
    (case yExact_ha => first | k_is | rfl | decide +kernel)
    (case yExact_hm => first | k_is | rfl | decide +kernel)
    (case yExact_r1 => first | k_is | rfl | decide +kernel)
    (case yExact_r2 => first | k_is | rfl | decide +kernel)
    (case yExact_cv => first | k_is | rfl | decide +kernel)
    (case yExact_trusted => first | k_is | rfl | decide +kernel)
    (case yExact_play => first | k_is | rfl | decide +kernel)
    (case yExact_never_parts => first | k_is | rfl | decide +kernel)
    (case yExact_kWheel => first | k_is | rfl | decide +kernel)
    (case yExact_kEven => first | k_is | rfl | decide +kernel)
    (case yExact_kExact => first | k_is | rfl | decide +kernel)
    (case yExact_kLagging => first | k_is | rfl | decide +kernel)
    (case yExact_kGrid => first | k_is | rfl | decide +kernel)
    (case yExact_fWheel => first | k_is | rfl | decide +kernel)
    (case yExact_fEven => first | k_is | rfl | decide +kernel)
    (case yExact_fExact => first | k_is | rfl | decide +kernel)
    (case yExact_fLagging => first | k_is | rfl | decide +kernel)
    (case yExact_fGrid => first | k_is | rfl | decide +kernel)
    (case yExact_sub => first | k_is | rfl | decide +kernel)
    (case yExact_sup => first | k_is | rfl | decide +kernel)
    (case yLagging_cls => exact ⟨by k_is, by k_is, by k_is, by k_is⟩)
    (case yLagging_n1 => show PySem.W.findIn _ _ _ = _; k_is)
    (case yLagging_n2 => show PySem.W.findIn _ _ _ = _; k_is)
    (case yLagging_n3 => show PySem.W.findIn _ _ _ = _; k_is)
    (case yLagging_con => first | k_is | rfl | decide +kernel)
    (case yLagging_m1 => first | k_is | rfl | decide +kernel)
    (case yLagging_m3 => first | k_is | rfl | decide +kernel)
    (case yLagging_m4 => first | k_is | rfl | decide +kernel)
    (case yLagging_eq => first | k_is | rfl | decide +kernel)
    (case yLagging_ha => first | k_is | rfl | decide +kernel)
    (case yLagging_hm => first | k_is | rfl | decide +kernel)
    (case yLagging_r1 => first | k_is | rfl | decide +kernel)
    (case yLagging_r2 => first | k_is | rfl | decide +kernel)
    (case yLagging_cv => first | k_is | rfl | decide +kernel)
    (case yLagging_trusted => first | k_is | rfl | decide +kernel)
    (case yLagging_play => first | k_is | rfl | decide +kernel)
    (case yLagging_never_parts => first | k_is | rfl | decide +kernel)
    (case yLagging_kWheel => first | k_is | rfl | decide +kernel)
    (case yLagging_kEven => first | k_is | rfl | decide +kernel)
    (case yLagging_kExact => first | k_is | rfl | decide +kernel)
    (case yLagging_kLagging => first | k_is | rfl | decide +kernel)
    (case yLagging_kGrid => first | k_is | rfl | decide +kernel)
    (case yLagging_fWheel => first | k_is | rfl | decide +kernel)
    (case yLagging_fEven => first | k_is | rfl | decide +kernel)
    (case yLagging_fExact => first | k_is | rfl | decide +kernel)
    (case yLagging_fLagging => first | k_is | rfl | decide +kernel)
    (case yLagging_fGrid => first | k_is | rfl | decide +kernel)
    (case yLagging_sub => first | k_is | rfl | decide +kernel)
    (case yLagging_sup => first | k_is | rfl | decide +kernel)
    (case yGrid_cls => exact ⟨by k_is, by k_is, by k_is, by k_is⟩)
    (case yGrid_n1 => show PySem.W.findIn _ _ _ = _; k_is)
    (case yGrid_n2 => show PySem.W.findIn _ _ _ = _; k_is)
    (case yGrid_n3 => show PySem.W.findIn _ _ _ = _; k_is)
    (case yGrid_con => first | k_is | rfl | decide +kernel)
    (case yGrid_m1 => first | k_is | rfl | decide +kernel)
    (case yGrid_m3 => first | k_is | rfl | decide +kernel)
    (case yGrid_m4 => first | k_is | rfl | decide +kernel)
    (case yGrid_eq => first | k_is | rfl | decide +kernel)
    (case yGrid_ha => first | k_is | rfl | decide +kernel)
    (case yGrid_hm => first | k_is | rfl | decide +kernel)
    (case yGrid_r1 => first | k_is | rfl | decide +kernel)
    (case yGrid_r2 => first | k_is | rfl | decide +kernel)
    (case yGrid_cv => first | k_is | rfl | decide +kernel)
    (case yGrid_trusted => first | k_is | rfl | decide +kernel)
    (case yGrid_play => first | k_is | rfl | decide +kernel)
    (case yGrid_never_parts => first | k_is | rfl | decide +kernel)
    (case yGrid_kWheel => first | k_is | rfl | decide +kernel)
    (case yGrid_kEven => first | k_is | rfl | decide +kernel)
    (case yGrid_kExact => first | k_is | rfl | decide +kernel)
    (case yGrid_kLagging => first | k_is | rfl | decide +kernel)
    (case yGrid_kGrid => first | k_is | rfl | decide +kernel)
    (case yGrid_fWheel => first | k_is | rfl | decide +kernel)
    (case yGrid_fEven => first | k_is | rfl | decide +kernel)
    (case yGrid_fExact => first | k_is | rfl | decide +kernel)
    (case yGrid_fLagging => first | k_is | rfl | decide +kernel)
    (case yGrid_fGrid => first | k_is | rfl | decide +kernel)
    (case yGrid_sub => first | k_is | rfl | decide +kernel)
    (case yGrid_sup => first | k_is | rfl | decide +kernel)
