import PyProof.Rows.All
import Wide.All
import OpenK.AllK
import Wide.FinOn
import HandS.ForMost
import HandS.ForExc
import HandS.Star
import HandS.Wide
import HandS.IsInst
import HandS.Style
import HandS.Codes
import HandS.Lambda
import HandS.EndTab
import KE.KExcIs
import HandS.ExcInit
import HandS.ExcIs
import HandS.ExcOwn
import HandS.ExcValue
import HandS.Iter
import HandS.Walk
import HandS.Dict
import PySem.Challenge.RW_wheelreach_k01_errors_keep_their_fields
set_option Elab.async false
set_option linter.all false
set_option maxRecDepth 100000
set_option maxHeartbeats 4000000
namespace My
open PySem PySem.Spec PyProof.Rows L2 StX
def top (i : Nat) : Stmt := PySem.Challenge.pw_wheelreach_k01_errors_keep_their_fields.main.body.getD i (.Pass ⟨0, 0, 0, 0⟩)
abbrev s_pen : Stmt := top 23
abbrev s_draw : Stmt := top 24
abbrev s_pick : Stmt := top 25
abbrev s_thing : Stmt := top 26
abbrev s_classes : Stmt := top 27
abbrev s_parted : Stmt := top 28
abbrev s_placed : Stmt := top 29
abbrev s_two_right : Stmt := top 30
abbrev s_law : Stmt := top 31
abbrev s_BadNumber_init : Stmt := inClass (top 2) 0
abbrev s_BadLot_init : Stmt := inClass (top 3) 0
abbrev s_BadWheel_init : Stmt := inClass (top 4) 0
abbrev s_BadMeter_init : Stmt := inClass (top 5) 0
abbrev s_BadMark_init : Stmt := inClass (top 6) 0
abbrev s_BadValue_init : Stmt := inClass (top 7) 0
abbrev s_BadGear_init : Stmt := inClass (top 8) 0
abbrev s_BadShelf_init : Stmt := inClass (top 9) 0
abbrev s_BadLog_init : Stmt := inClass (top 10) 0
abbrev s_BadFollower_init : Stmt := inClass (top 11) 0
abbrev s_BadDeed_init : Stmt := inClass (top 12) 0
abbrev s_BadText_init : Stmt := inClass (top 13) 0
abbrev s_BadLine_init : Stmt := inClass (top 14) 0
abbrev s_NoName_init : Stmt := inClass (top 16) 0
abbrev s_NoPlace_init : Stmt := inClass (top 17) 0
abbrev s_Unlike_init : Stmt := inClass (top 18) 0
abbrev s_TooMany_init : Stmt := inClass (top 21) 0
theorem sc_pen : FnScope ["_law_script"] ["_law_script"] (defScope s_pen) := ⟨rfl, rfl, rfl, by decide +kernel, rfl, by decide +kernel, by decide +kernel⟩
theorem sc_draw : FnScope ["_law_pen_here", "_law_many", "_law_digit", "_law_begun", "_law_raw", "_law_great", "_law_stirred"] ["_law_pen_here", "_law_many"] (defScope s_draw) := ⟨rfl, rfl, rfl, by decide +kernel, rfl, by decide +kernel, by decide +kernel⟩
theorem sc_pick : FnScope ["_law_pen_here", "_law_some"] ["_law_pen_here", "_law_some"] (defScope s_pick) := ⟨rfl, rfl, rfl, by decide +kernel, rfl, by decide +kernel, by decide +kernel⟩
theorem sc_thing : FnScope ["_law_pen_here", "_law_some"] ["_law_pen_here"] (defScope s_thing) := ⟨rfl, rfl, rfl, by decide +kernel, rfl, by decide +kernel, by decide +kernel⟩
theorem sc_classes : FnScope ["_law_error", "_law_found"] ["_law_error"] (defScope s_classes) := ⟨rfl, rfl, rfl, by decide +kernel, rfl, by decide +kernel, by decide +kernel⟩
theorem sc_parted : FnScope ["_law_one", "_law_found"] ["_law_one"] (defScope s_parted) := ⟨rfl, rfl, rfl, by decide +kernel, rfl, by decide +kernel, by decide +kernel⟩
theorem sc_placed : FnScope ["_law_one", "_law_found"] ["_law_one"] (defScope s_placed) := ⟨rfl, rfl, rfl, by decide +kernel, rfl, by decide +kernel, by decide +kernel⟩
theorem sc_two_right : FnScope ["_law_one", "_law_two", "_law_pages", "_law_bounds", "_law_error"] ["_law_one", "_law_two"] (defScope s_two_right) := ⟨rfl, rfl, rfl, by decide +kernel, rfl, by decide +kernel, by decide +kernel⟩
theorem sc_law : FnScope ["_law_script", "_law_pen_here", "_law_turn", "_law_one", "_law_two", "_law_valued", "_law_named", "_law_lines", "_law_error", "_law_rows", "_law_spot", "_law_number"] ["_law_script"] (defScope s_law) := ⟨rfl, rfl, rfl, by decide +kernel, rfl, by decide +kernel, by decide +kernel⟩
theorem sc_BadNumber_init : FnScope ["self", "value"] ["self", "value"] (defScope s_BadNumber_init) := ⟨rfl, rfl, rfl, by decide +kernel, rfl, by decide +kernel, by decide +kernel⟩
theorem sc_BadLot_init : FnScope ["self", "part"] ["self", "part"] (defScope s_BadLot_init) := ⟨rfl, rfl, rfl, by decide +kernel, rfl, by decide +kernel, by decide +kernel⟩
theorem sc_BadWheel_init : FnScope ["self", "part"] ["self", "part"] (defScope s_BadWheel_init) := ⟨rfl, rfl, rfl, by decide +kernel, rfl, by decide +kernel, by decide +kernel⟩
theorem sc_BadMeter_init : FnScope ["self", "part"] ["self", "part"] (defScope s_BadMeter_init) := ⟨rfl, rfl, rfl, by decide +kernel, rfl, by decide +kernel, by decide +kernel⟩
theorem sc_BadMark_init : FnScope ["self", "at"] ["self", "at"] (defScope s_BadMark_init) := ⟨rfl, rfl, rfl, by decide +kernel, rfl, by decide +kernel, by decide +kernel⟩
theorem sc_BadValue_init : FnScope ["self", "value"] ["self", "value"] (defScope s_BadValue_init) := ⟨rfl, rfl, rfl, by decide +kernel, rfl, by decide +kernel, by decide +kernel⟩
theorem sc_BadGear_init : FnScope ["self", "at"] ["self", "at"] (defScope s_BadGear_init) := ⟨rfl, rfl, rfl, by decide +kernel, rfl, by decide +kernel, by decide +kernel⟩
theorem sc_BadShelf_init : FnScope ["self", "part"] ["self", "part"] (defScope s_BadShelf_init) := ⟨rfl, rfl, rfl, by decide +kernel, rfl, by decide +kernel, by decide +kernel⟩
theorem sc_BadLog_init : FnScope ["self", "at"] ["self", "at"] (defScope s_BadLog_init) := ⟨rfl, rfl, rfl, by decide +kernel, rfl, by decide +kernel, by decide +kernel⟩
theorem sc_BadFollower_init : FnScope ["self", "part"] ["self", "part"] (defScope s_BadFollower_init) := ⟨rfl, rfl, rfl, by decide +kernel, rfl, by decide +kernel, by decide +kernel⟩
theorem sc_BadDeed_init : FnScope ["self", "at"] ["self", "at"] (defScope s_BadDeed_init) := ⟨rfl, rfl, rfl, by decide +kernel, rfl, by decide +kernel, by decide +kernel⟩
theorem sc_BadText_init : FnScope ["self", "line", "word"] ["self", "line", "word"] (defScope s_BadText_init) := ⟨rfl, rfl, rfl, by decide +kernel, rfl, by decide +kernel, by decide +kernel⟩
theorem sc_BadLine_init : FnScope ["self", "word"] ["self", "word"] (defScope s_BadLine_init) := ⟨rfl, rfl, rfl, by decide +kernel, rfl, by decide +kernel, by decide +kernel⟩
theorem sc_NoName_init : FnScope ["self", "name"] ["self", "name"] (defScope s_NoName_init) := ⟨rfl, rfl, rfl, by decide +kernel, rfl, by decide +kernel, by decide +kernel⟩
theorem sc_NoPlace_init : FnScope ["self", "at"] ["self", "at"] (defScope s_NoPlace_init) := ⟨rfl, rfl, rfl, by decide +kernel, rfl, by decide +kernel, by decide +kernel⟩
theorem sc_Unlike_init : FnScope ["self", "part"] ["self", "part"] (defScope s_Unlike_init) := ⟨rfl, rfl, rfl, by decide +kernel, rfl, by decide +kernel, by decide +kernel⟩
theorem sc_TooMany_init : FnScope ["self", "what", "most"] ["self", "what", "most"] (defScope s_TooMany_init) := ⟨rfl, rfl, rfl, by decide +kernel, rfl, by decide +kernel, by decide +kernel⟩
section
variable {P : Program} {w : World} {K : PySem.W.Frag} {mg : Str → Option Value} {base : Heap}
/-! ### rules and words of our own -/
/-- x(e, ..), x a def whose promise is told of the arguments as they are passed -/
theorem pe_callR {X : Cx} {CX : CXT} {k : Nat} {f : Addr} {sp : Sp} {E : XK} {x : Str} {e : Expr} {es : List Expr} {t : TA} {p pos : Pos} (F : FnR X.prog X.w X.K X.mg X.base CX k f sp) (hr : Room k X.A) (hk : PySem.W.keepIn X.K (.ref f) = true) (hg : Gl X x) (hm : X.mg x = some (.ref f)) (hx : Passes CX X E)
    (ha : PA X (e :: es) t) (hd : (x == ("__debug__" : Str)) = false := by decide) (he : starEach (e :: es) X.env = (false, eval e X.env) :: starEach es X.env := by rfl) (hpl : (backTo pos (starEach es X.env)).any (·.1) = false := by rfl) :
    PE X (.Call (.Name x p) (e :: es) [] pos) (fun σ H Q => t σ H fun vs H1 => sp vs H1 Q E) := by
  refine ⟨fun pins s σ H Q I h => ?_⟩
  refine wpAny_Call_Name_kw (ld_glob I hg hm ?_ hd)
  refine PySem.W.callWith_K (h₀ := X.base) I.ok.mod.kin hk (thn (ha.run pos pins s σ H _ I h) fun us s1 ⟨vs, H1, I1, r, q⟩ => ⟨I1.kIn, ?_⟩) he hpl
  exact wpAny_call (run_fnR F hr hx I1 r q)
theorem pe_callR0 {X : Cx} {CX : CXT} {k : Nat} {f : Addr} {sp : Sp} {E : XK} {x : Str} {p pos : Pos} (F : FnR X.prog X.w X.K X.mg X.base CX k f sp) (hr : Room k X.A) (hk : PySem.W.keepIn X.K (.ref f) = true) (hg : Gl X x) (hm : X.mg x = some (.ref f)) (hx : Passes CX X E)
    (hd : (x == ("__debug__" : Str)) = false := by decide) : PE X (.Call (.Name x p) [] [] pos) (fun σ H Q => sp [] H Q E) := by
  refine ⟨fun pins s σ H Q I h => ?_⟩
  refine wpAny_Call_Name_kw (ld_glob I hg hm ?_ hd)
  exact PySem.W.callWith_K0 I.kIn hk (wpAny_call (run_fnR (us := []) F hr hx I .nil h))
/-- def f(*v) of the text -/
theorem star_ok {P : Program} {w : World} {K : PySem.W.Frag} {mg : Str → Option Value} {base : Heap} {k : Nat} {x qual pv : Str} {st : Stmt} {f : Addr} {fd : FuncData} {N : List Str} {sp : List V → Hp → VK → XK → Prop}
    (F : Fun K x qual st f fd) (S : FnScope N [pv] (defScope st))
    (hb : ∀ (kV doc pm : Value) (an : Option Addr) (cdv ct : Value) (rest : List Value), bindArgs (PySem.W.fnOf x qual (defArgs st) (defBody st) (defScope st) .none kV doc pm an cdv ct) ⟨rest, []⟩ = (newTuple rest >>= fun t => pure [(pv, t)]))
    (hbody : ∀ (cdv : Value) (A : Around) (outer : List Env) (s : Shared) (H : Hp) (vs : List V) (p : Addr) (H0 : Hp) (Q : VK) (E : XK), Room k (A.deeper (envOfC qual (defScope st) s.heap.objs.size f cdv)) → sp vs H0 Q E → vs.length ≤ sizeLine → H0 p = Option.none → H = upd H0 p (.tup vs) →
      ∃ t, PSs (cxOf CX0 P w K mg base N qual (defScope st) f cdv A outer s H E).nox (defBody st) t ∧ t { nx := fun _ H' => Q .non H', rt := Q } (start N [V.ref p]) H) :
    FnR P w K mg base CX0 (k + 1) f (fun vs H Q E => vs.length ≤ sizeLine ∧ sp vs H Q E) := by
  obtain ⟨oc, od, kV, doc, pm, an, cdv, ct, osl, rfl, lk, hcd⟩ := F.ex
  refine FnR.imp (fn_star (ps := []) (pv := pv) (CX := CX0) (sp := fun ws H Q E => ∃ (vs : List V) (p : Addr) (H0 : Hp), ws = [V.ref p] ∧ sp vs H0 Q E ∧ vs.length ≤ sizeLine ∧ H0 p = Option.none ∧ H = upd H0 p (.tup vs)) lk hcd S cxUp_none (fun us rest hl => ?_) fun A outer s H vs Q E hr h => ?_) fun vs H Q E h => ?_
  · have e : us = [] := List.length_eq_zero_iff.mp hl
    subst e
    show bindArgs _ ⟨rest, []⟩ = _
    rw [hb]
    rfl
  · obtain ⟨ws, p, H0, rfl, hs, hl, hp, rfl⟩ := h
    obtain ⟨t, ht, hq⟩ := hbody cdv A outer s _ ws p H0 Q E hr hs hl hp rfl
    exact ⟨t, ht.nox, hq⟩
  · exact ⟨[], vs, rfl, rfl, h.1, fun p hp => ⟨vs, p, H, rfl, h.2, h.1, hp, rfl⟩⟩
/-- all but p is as it was -/
structure Fr (p : Addr) (H H' : Hp) : Prop where
  keep : ∀ b o, b ≠ p → H b = some o → H' b = some o
  head : ∀ v xs, H p = some (.lst (v :: xs)) → ∃ ys, H' p = some (.lst (v :: ys))
instance {p : Addr} {H H' : Hp} : CoeFun (Fr p H H') fun _ => ∀ b o, b ≠ p → H b = some o → H' b = some o := ⟨Fr.keep⟩
theorem Fr.refl (p : Addr) (H : Hp) : Fr p H H := ⟨fun _ _ _ h => h, fun _ xs h => ⟨xs, h⟩⟩
theorem Fr.trans {p : Addr} {H H1 H2 : Hp} (a : Fr p H H1) (b : Fr p H1 H2) : Fr p H H2 := ⟨fun c o n h => b.keep c o n (a.keep c o n h), fun v xs h => by
  obtain ⟨ys, h1⟩ := a.head v xs h
  exact b.head v ys h1⟩
theorem same_fr {p : Addr} {H H' : Hp} (s : Same H H') : Fr p H H' := ⟨fun b o _ h => s b o h, fun _ xs h => ⟨xs, s _ _ h⟩⟩
theorem same_new {H : Hp} {p : Addr} {o : HO} (h : H p = Option.none) : Same H (upd H p o) := fun b u e => by
  rw [upd_ne (ne_of_none e h)]; exact e
theorem fr_upd {H : Hp} {p : Addr} {v : V} {xs ys : List V} (hp : H p = some (.lst (v :: xs))) : Fr p H (upd H p (.lst (v :: ys))) := ⟨fun b u n e => by rw [upd_ne n]; exact e, fun v' xs' e => by
  rw [hp] at e
  cases e
  exact ⟨ys, upd_same⟩⟩
theorem Fr.seq {K : PySem.W.Frag} {p a : Addr} {H H' : Hp} {xs : List V} (e : Fr p H H') (n : a ≠ p) (h : SqL K H a xs) : SqL K H' a xs := by
  rcases h with (h | ⟨o, h⟩) | h
  · exact .inl (.inl (e _ _ n h))
  · exact .inl (.inr ⟨o, e _ _ n h⟩)
  · exact .inr h
/-- the state of the draws: the cells, the index, what is left of a great one -/
def Pen (H : Hp) (p : Addr) (n : Nat) : Prop := ∃ (c : Addr) (ns : List Int) (i g : Int), H p = some (.lst [.ref c, .int i, .int g]) ∧ H c = some (.lst (ns.map V.int)) ∧ 0 ≤ i ∧ i ≤ (n : Int) ∧ 0 ≤ g ∧ ns.length ≤ 63
theorem Pen.same {H H' : Hp} {p : Addr} {n : Nat} (h : Pen H p n) (s : Same H H') : Pen H' p n := by
  obtain ⟨c, ns, i, g, h1, h2, h3⟩ := h
  exact ⟨c, ns, i, g, s _ _ h1, s _ _ h2, h3⟩
theorem Pen.mono {H : Hp} {p : Addr} {n m : Nat} (h : Pen H p n) (l : n ≤ m) : Pen H p m := by
  obtain ⟨c, ns, i, g, h1, h2, h3, h4, h5⟩ := h
  exact ⟨c, ns, i, g, h1, h2, h3, by omega, h5⟩
theorem pen_ne {H : Hp} {p c : Addr} {x y : V} {a : Addr} {ns : List Int} (h1 : H p = some (.lst [.ref a, x, y])) (h2 : H c = some (.lst (ns.map V.int))) : c ≠ p := fun e => by
  rw [e, h1] at h2
  cases ns with
  | nil => cases h2
  | cons z r => injection h2 with h2; injection h2 with h2; injection h2 with h2; cases h2
theorem Pen.at {H : Hp} {p : Addr} {n : Nat} (h : Pen H p n) : ∃ xs, H p = some (.lst xs) := by
  obtain ⟨c, ns, i, g, h1, _⟩ := h
  exact ⟨_, h1⟩
theorem Pen.neq {H : Hp} {p a : Addr} {n : Nat} (h : Pen H p n) (e : H a = Option.none) : a ≠ p := fun z => by
  obtain ⟨xs, h⟩ := h.at
  rw [z, h] at e; cases e
theorem if_true_of {c : Bool} {A B : Prop} (hc : c = true) (h : A) : if c = true then A else B := by
  rw [if_pos hc]; exact h
theorem if_false_of {c : Bool} {A B : Prop} (hc : c = false) (h : B) : if c = true then A else B := by
  rw [hc, if_neg Bool.false_ne_true]; exact h
theorem atI_in {ns : List Int} {j : Int} (h0 : 0 ≤ j) (h1 : j < (ns.length : Int)) : ∃ z, atI (ns.map V.int) j = some (V.int z) := by
  have h : j.toNat < ns.length := by omega
  exact ⟨ns[j.toNat], at_of (j := j.toNat) (by omega) (by rw [List.getElem?_map]; simp [h])⟩
theorem atI_any {xs : List V} {j : Int} (h0 : 0 ≤ j) (h1 : j < (xs.length : Int)) : ∃ z, z ∈ xs ∧ atI xs j = some z := by
  have h : j.toNat < xs.length := by omega
  exact ⟨xs[j.toNat], List.getElem_mem h, at_of (j := j.toNat) (by omega) (by simp [h])⟩
theorem cut_ints (ns : List Int) (lo hi : Option Int) : ∃ ms : List Int, cutV (ns.map V.int) lo hi = ms.map V.int ∧ ms.length ≤ ns.length := by
  refine ⟨(ns.drop (HT.sIx (ns.map V.int).length 0 lo)).take (HT.sIx (ns.map V.int).length (ns.map V.int).length hi - HT.sIx (ns.map V.int).length 0 lo), ?_, ?_⟩
  · unfold cutV
    rw [List.map_take, List.map_drop]
  · rw [List.length_take, List.length_drop]
    omega
theorem stir1 {r b d e : Int} (h0 : 0 ≤ r) (h1 : r < 2147483648) (b0 : 0 ≤ b) (b1 : b ≤ 100000) (d0 : 0 ≤ d) (d1 : d ≤ 100000) (e0 : 0 ≤ e) (e1 : e ≤ 100000) : (r + d * b + e).natAbs < 2 ^ 64 := by
  have h2 := Int.mul_nonneg d0 b0
  have h3 : d * b ≤ d * 100000 := Int.mul_le_mul_of_nonneg_left b1 d0
  omega
theorem stir2 {s b c d e : Int} (h0 : 0 ≤ s) (h1 : s < 2147483648) (b0 : 0 ≤ b) (b1 : b ≤ 100000) (c0 : 0 ≤ c) (c1 : c ≤ 100000) (d0 : 0 ≤ d) (d1 : d ≤ 100000) (e0 : 0 ≤ e) (e1 : e ≤ 100000) : (s * (2 * b + c) + d * b * b + e).natAbs < 2 ^ 64 := by
  have h2 := Int.mul_nonneg h0 (show 0 ≤ 2 * b + c by omega)
  have h3 : s * (2 * b + c) ≤ 2147483648 * (2 * b + c) := Int.mul_le_mul_of_nonneg_right (by omega) (by omega)
  have h4 := Int.mul_nonneg d0 b0
  have h5 := Int.mul_nonneg h4 b0
  have h6 : d * b ≤ d * 100000 := Int.mul_le_mul_of_nonneg_left b1 d0
  have h7 : d * b * b ≤ d * b * 100000 := Int.mul_le_mul_of_nonneg_left b1 h4
  omega
theorem small64 {i : Int} (h0 : 0 ≤ i) (h1 : i < 2147483648) : -(2 ^ 64) < i ∧ i < 2 ^ 64 := by omega
theorem fmod_pos {x m : Int} (hm : 0 < m) : 0 ≤ x.fmod m ∧ x.fmod m < m := by
  rw [Int.fmod_eq_emod_of_nonneg x (by omega)]
  exact ⟨Int.emod_nonneg _ (by omega), Int.emod_lt_of_pos _ hm⟩
theorem dp_ints {K : PySem.W.Frag} {H : Hp} : ∀ ns : List Int, DpAll K H (ns.map V.int) (ns.map PyData.int)
  | [] => .nil
  | z :: r => .cons (.int z) (dp_ints r)
theorem eqvAll_ints : ∀ ns : List Int, PyData.eqvAll (ns.map PyData.int) (ns.map PyData.int) = true
  | [] => by simp [PyData.eqvAll]
  | z :: r => by simp [PyData.eqvAll, PyData.eqv, eqvAll_ints r]
theorem eqv_ints (ns : List Int) : PyData.eqv (.list (ns.map PyData.int)) (.list (ns.map PyData.int)) = true := by
  rw [PyData.eqv]; exact eqvAll_ints ns

/-! ### defs told for callers around whom nothing is being shown by repr -/
def FnG (P : Program) (w : World) (K : PySem.W.Frag) (mg : Str → Option Value) (base : Heap) (CX : CXT) (k : Nat) (f : Addr) (sp : Sp) : Prop :=
  ∀ (A : Around) (outer : List Env) (s : Shared) (H : Hp) (us : List Value) (vs : List V) (Q : VK) (E : XK), A.guards = some [] → Room k A → Env0 P w K mg base A outer s H → Vals vs us → sp vs H Q E →
    codeAny (model P w) A (.call (.ref f) { pos := us, kw := [] }) (CR CX outer P w H s Q E) s
theorem FnG.of {P : Program} {w : World} {K : PySem.W.Frag} {mg : Str → Option Value} {base : Heap} {CX : CXT} {k : Nat} {f : Addr} {sp : Sp} (F : FnR P w K mg base CX k f sp) : FnG P w K mg base CX k f sp :=
  fun A o s H us vs Q E _ hr => F A o s H us vs Q E hr
theorem FnG.mk {P : Program} {w : World} {K : PySem.W.Frag} {mg : Str → Option Value} {base : Heap} {CX : CXT} {k : Nat} {x qual : Str} {st : Stmt} {f : Addr} {fd : FuncData} {N ps : List Str} {sp : Sp}
    (F : Fun K x qual st f fd) (S : FnScope N ps (defScope st)) (B : Binds K fd ps []) (len : ∀ vs H Q E, sp vs H Q E → vs.length = ps.length)
    (go : ∀ (cdv : Value) (A : Around) (outer : List Env) (s : Shared) (H : Hp) (vs : List V) (Q : VK) (E : XK), (A.deeper (envOfC qual (defScope st) s.heap.objs.size f cdv)).guards = some [] → Room k (A.deeper (envOfC qual (defScope st) s.heap.objs.size f cdv)) → sp vs H Q E →
      ∃ t, PSs (cxOf CX P w K mg base N qual (defScope st) f cdv A outer s H E) (defBody st) t ∧ t { nx := fun _ H1 => Q .non H1, rt := Q } (start N vs) H) : FnG P w K mg base CX (k + 1) f sp := by
  obtain ⟨oc, od, kV, doc, pm, an, cdv, ct, osl, e, lk, hcd⟩ := F.ex
  subst e
  intro A outer s H us vs Q E hg hr e0 rv hs
  have hl := len _ _ _ _ hs
  have hu : (us ++ []).length = ps.length := by rw [List.append_nil, ← hl]; exact rv.length.symm
  have b := B s us (e0.mod.kin.keeps fun b o z => (e0.bs b o z).1) hu
  rw [List.append_nil] at b
  exact LamX.run_ofS lk hcd S hr e0 b rv hl fun hr1 => go cdv A outer s H vs Q E hg hr1 hs
theorem FnG.mk0 {P : Program} {w : World} {K : PySem.W.Frag} {mg : Str → Option Value} {base : Heap} {k : Nat} {x qual : Str} {st : Stmt} {f : Addr} {fd : FuncData} {N ps : List Str} {sp : Sp}
    (F : Fun K x qual st f fd) (S : FnScope N ps (defScope st)) (B : Binds K fd ps []) (len : ∀ vs H Q E, sp vs H Q E → vs.length = ps.length)
    (go : ∀ (cdv : Value) (A : Around) (outer : List Env) (s : Shared) (H : Hp) (vs : List V) (Q : VK) (E : XK), (A.deeper (envOfC qual (defScope st) s.heap.objs.size f cdv)).guards = some [] → Room k (A.deeper (envOfC qual (defScope st) s.heap.objs.size f cdv)) → sp vs H Q E →
      ∃ t, PSs (cxOf CX0 P w K mg base N qual (defScope st) f cdv A outer s H E).nox (defBody st) t ∧ t { nx := fun _ H1 => Q .non H1, rt := Q } (start N vs) H) : FnG P w K mg base CX0 (k + 1) f sp :=
  FnG.mk F S B len fun cdv A outer s H vs Q E hg hr hs => by
    obtain ⟨t, ht, q⟩ := go cdv A outer s H vs Q E hg hr hs
    exact ⟨t, ht.nox, q⟩
/-- .. of a def whose code object is known -/
theorem FnG.mkL {P : Program} {w : World} {K : PySem.W.Frag} {mg : Str → Option Value} {base : Heap} {k : Nat} {x qual : Str} {st : Stmt} {f c : Addr} {N ps : List Str} {sp : Sp} {oc : Value} {od an : Option Addr} {osl : Array (Option Value)} {kV doc pm ct : Value}
    (lk : K.lookup f = some ⟨oc, od, .func (PySem.W.fnOf x qual (defArgs st) (defBody st) (defScope st) .none kV doc pm an (.ref c) ct), osl⟩) (hcd : PySem.W.codeIn K (.ref c) qual = true) (S : FnScope N ps (defScope st))
    (B : Binds K (PySem.W.fnOf x qual (defArgs st) (defBody st) (defScope st) .none kV doc pm an (.ref c) ct) ps []) (len : ∀ vs H Q E, sp vs H Q E → vs.length = ps.length)
    (go : ∀ (A : Around) (outer : List Env) (s : Shared) (H : Hp) (vs : List V) (Q : VK) (E : XK), (A.deeper (envOfC qual (defScope st) s.heap.objs.size f (.ref c))).guards = some [] → Room k (A.deeper (envOfC qual (defScope st) s.heap.objs.size f (.ref c))) → sp vs H Q E →
      ∃ t, PSs (cxOf CX0 P w K mg base N qual (defScope st) f (.ref c) A outer s H E).nox (defBody st) t ∧ t { nx := fun _ H1 => Q .non H1, rt := Q } (start N vs) H) : FnG P w K mg base CX0 (k + 1) f sp := by
  intro A outer s H us vs Q E hg hr e0 rv hs
  have hl := len _ _ _ _ hs
  have hu : (us ++ []).length = ps.length := by rw [List.append_nil, ← hl]; exact rv.length.symm
  have b := B s us (e0.mod.kin.keeps fun b o z => (e0.bs b o z).1) hu
  rw [List.append_nil] at b
  exact LamX.run_ofS lk hcd S hr e0 b rv hl fun hr1 => by
    obtain ⟨t, ht, q⟩ := go A outer s H vs Q E hg hr1 hs
    exact ⟨t, ht.nox, q⟩
/-- x(e, ..), x such a def -/
theorem pe_callG {X : Cx} {CX : CXT} {k : Nat} {f : Addr} {sp : Sp} {E : XK} {x : Str} {e : Expr} {es : List Expr} {t : TA} {p pos : Pos} (gu : X.A.guards = some []) (F : FnG X.prog X.w X.K X.mg X.base CX k f sp) (hr : Room k X.A) (hk : PySem.W.keepIn X.K (.ref f) = true) (hg : Gl X x) (hm : X.mg x = some (.ref f)) (hx : Passes CX X E)
    (ha : PA X (e :: es) t) (hd : (x == ("__debug__" : Str)) = false := by decide) (he : starEach (e :: es) X.env = (false, eval e X.env) :: starEach es X.env := by rfl) (hpl : (backTo pos (starEach es X.env)).any (·.1) = false := by rfl) :
    PE X (.Call (.Name x p) (e :: es) [] pos) (fun σ H Q => t σ H fun vs H1 => sp vs H1 Q E) := by
  refine ⟨fun pins s σ H Q I h => wpAny_Call_Name_kw (ld_glob I hg hm ?_ hd)⟩
  refine PySem.W.callWith_K (h₀ := X.base) I.ok.mod.kin hk (thn (ha.run pos pins s σ H _ I h) fun us s1 ⟨vs, H1, I1, r, q⟩ => ⟨I1.kIn, wpAny_call ?_⟩) he hpl
  refine codeAny_mono (F X.A X.stack s1 H1 us vs Q E gu hr I1.env0 r q) fun z s2 hz => ?_
  match z, hz with
  | .error er, hz => exact hx pins σ H1 s1 er s2 I1 hz
  | .ok (.ret u), hz => exact I1.after hz
/-! ### the law's entry, with tables of code objects and nothing being shown -/
section
variable {P : Program} {w : World} {K : PySem.W.Frag} {mg mb : Str → Option Value} {a : Addr} {cs : List (Addr × Addr)} {s : Shared} {vs : List Value} {ns : List Int}
open Classical in
/-- what is tracked at the entry: the script, if it is none of the written things, and the tables -/
noncomputable def H1st (K : PySem.W.Frag) (a : Addr) (cs : List (Addr × Addr)) (vs : List Value) (ns : List Int) : Hp := fun b =>
  if b = a ∧ K.lookup a = Option.none then some (.frz ({ cls := .type "list", data := .seq vs.toArray } : Obj) (.lst (ns.map V.int))) else if ∃ p ∈ cs, p.2 = b then some (.tbl #[]) else Option.none
theorem entry (KX : K.In s.heap) (G : s.heap.Ns mainGlobals mg) (Gb : s.heap.Ns builtinsNs mb) (bb : ∀ x : Str, x ≠ "__name__" → mb x = bootBuiltins x) (nl : s.heap.NoLimit) (ng : s.gens = #[])
    (tb : ∀ p ∈ cs, s.heap.get? p.2 = some ({ cls := .none, data := .fields #[] } : Obj)) (tk : ∀ p ∈ cs, K.lookup p.2 = Option.none) (ch : ∀ p ∈ cs, PySem.W.CodeHd s.heap p.1 p.2)
    (bm : ∃ (m : Addr) (o : Obj), mg "__builtins__" = some (.ref m) ∧ m ≠ builtinsNs ∧ s.heap.get? m = some o ∧ o.cls = .type "module" ∧ o.dict = some builtinsNs ∧ o.data = .plain)
    (sc : s.heap.get? a = some ({ cls := .type "list", data := .seq vs.toArray } : Obj)) (iv : IntsAre vs ns) (len : ns.length ≤ sizeLine) :
    ∃ (H : Hp) (base : Heap), K.In base ∧ base.Ns mainGlobals mg ∧ (∀ p ∈ cs, LamX.TabB base mg p.1 p.2) ∧ Env0 P w K mg base callerA [] s H ∧ (∀ p ∈ cs, H p.2 = some (.tbl #[])) ∧ SqL K H a (ns.map V.int) ∧
      ∀ b, H b = Option.none ∨ (∃ p ∈ cs, p.2 = b) ∨ ∃ o xs, H b = some (.frz o (.lst xs)) := by
  have rv := vals_ints iv
  have nt : ¬ ∃ p ∈ cs, p.2 = a := fun ⟨p, hp, e⟩ => by
    have z := tb p hp
    rw [e, sc] at z
    exact nomatch congrArg Obj.data (Option.some.inj z)
  -- what is tracked
  have tr : ∀ b u, H1st K a cs vs ns b = some u → (b = a ∧ K.lookup a = Option.none ∧ u = .frz ({ cls := .type "list", data := .seq vs.toArray } : Obj) (.lst (ns.map V.int))) ∨ ((∃ p ∈ cs, p.2 = b) ∧ u = .tbl #[]) := fun b u h => by
    unfold H1st at h
    split at h
    · rename_i c; exact .inl ⟨c.1, c.2, (Option.some.inj h).symm⟩
    · split at h
      · rename_i c; exact .inr ⟨c, (Option.some.inj h).symm⟩
      · cases h
  have tt : ∀ p ∈ cs, H1st K a cs vs ns p.2 = some (.tbl #[]) := fun p hp => by
    unfold H1st
    rw [if_neg (fun z : p.2 = a ∧ _ => nt ⟨p, hp, z.1⟩), if_pos ⟨p, hp, rfl⟩]
  have un : ∀ b o, s.heap.get? b = some o → (∀ v n, o.data ≠ .seq v n) → o.data ≠ .fields #[] → H1st K a cs vs ns b = Option.none := fun b o e n1 n2 => by
    match q : H1st K a cs vs ns b with
    | Option.none => rfl
    | some u =>
      exfalso
      rcases tr b u q with ⟨z, _, _⟩ | ⟨⟨p, hp, z⟩, _⟩
      · rw [z, sc] at e; cases e; exact n1 _ _ rfl
      · rw [← z, tb p hp] at e; cases e; exact n2 rfl
  have keep : ∀ {b : Addr} {o : Obj}, s.heap.get? b = some o → (∀ v n, o.data ≠ .seq v n) → o.data ≠ .fields #[] → (hidT s.heap (H1st K a cs vs ns)).get? b = some o := fun e n1 n2 => hidT_get e (un _ _ e n1 n2)
  have nsOf : ∀ {b : Addr} {m : Str → Option Value}, s.heap.Ns b m → (hidT s.heap (H1st K a cs vs ns)).Ns b m := fun {b m} ⟨o, es, ep, e, d, r⟩ => ⟨o, es, ep, keep e (fun v n z => by rw [d] at z; cases z) (fun z => by rw [d] at z; cases z), d, r⟩
  have kin : K.In (hidT s.heap (H1st K a cs vs ns)) := fun b o e => hidT_get (KX b o e) (by
    match q : H1st K a cs vs ns b with
    | Option.none => rfl
    | some u =>
      exfalso
      rcases tr b u q with ⟨z, z2, _⟩ | ⟨⟨p, hp, z⟩, _⟩
      · rw [z, z2] at e; cases e
      · rw [← z, tk p hp] at e; cases e)
  have md : L2.Mod K mg (hidT s.heap (H1st K a cs vs ns)) := { kin := kin, glob := nsOf G, blt := ⟨mb, nsOf Gb, bb⟩, nolimit := by obtain ⟨mc, q1, q2⟩ := nl; exact ⟨mc, nsOf q1, q2⟩ }
  have gl : ∀ p ∈ cs, mainGlobals ≠ p.2 := fun p hp z => by
    obtain ⟨o, es, ep, e, d, _⟩ := G
    rw [z, tb p hp] at e
    cases e
    cases d
  refine ⟨H1st K a cs vs ns, hidT s.heap (H1st K a cs vs ns), kin, nsOf G, fun p hp => ⟨?_, ?_, gl p hp⟩, ⟨rfl, md, fun b o e => of_hidT e, Nat.le_of_eq (hidT_size _ _), trivial, fun b hb => (List.not_mem_nil hb).elim, fun b u q => ?_, .of_eq ng⟩, tt, ?_, fun b => ?_⟩
  · obtain ⟨o, us, file, tf, flags, tg, inF, text, tt, q0, q1, q2, q3, rest⟩ := ch p hp
    refine ⟨o, us, file, tf, flags, tg, inF, text, tt, keep q0 (fun v n z => by rw [q2] at z; cases z) (fun z => ?_), q1, q2, q3, rest⟩
    rw [q2] at z
    cases z
    simp at q3
  · obtain ⟨m, o, b1, b2, b3, b4, b5, b6⟩ := bm
    refine ⟨m, o, b1, b2, fun z => ?_, fun z => ?_, keep b3 (fun v n z => by rw [b6] at z; cases z) (fun z => by rw [b6] at z; cases z), b4, b5, b6⟩
    · obtain ⟨o2, es, ep, e, d, _⟩ := G
      rw [z, e] at b3
      cases b3
      rw [d] at b6
      cases b6
    · rw [z, tb p hp] at b3
      cases b3
      cases b6
  · rcases tr b u q with ⟨z, _, z3⟩ | ⟨⟨p, hp, z⟩, z3⟩
    · rw [z, z3]
      exact ⟨sc, by rw [List.length_map]; exact len, vs, _, rv, sc⟩
    · rw [← z, z3]
      exact tb p hp
  · match q : K.lookup a with
    | Option.none => exact .inl (.inr ⟨_, by unfold H1st; rw [if_pos ⟨rfl, q⟩]⟩)
    | some o =>
      have e := KX a o q
      rw [sc] at e
      cases e
      exact .inr ⟨_, vs.toArray, _, q, rfl, rfl, rfl, by rw [List.size_toArray, iv.length]; exact len, by simpa using rv⟩
  · match q : H1st K a cs vs ns b with
    | Option.none => exact .inl rfl
    | some u =>
      rcases tr b u q with ⟨_, _, z3⟩ | ⟨z, _⟩
      · rw [z3]; exact .inr (.inr ⟨_, _, rfl⟩)
      · exact .inr (.inl z)
/-- what stood before the law stands behind it -/
theorem leave {H H2 : Hp} {s2 : Shared} (tb : ∀ p ∈ cs, s.heap.get? p.2 = some ({ cls := .none, data := .fields #[] } : Obj)) (ch : ∀ p ∈ cs, PySem.W.CodeHd s.heap p.1 p.2) (tt : ∀ p ∈ cs, H p.2 = some (.tbl #[]))
    (only : ∀ b, H b = Option.none ∨ (∃ p ∈ cs, p.2 = b) ∨ ∃ o xs, H b = some (.frz o (.lst xs))) (h1 : HOk P w H s.heap) (u : Un (frs []) [] H H2 s.heap s2.heap) (h2 : HOk P w H2 s2.heap) : OldK s.heap s2.heap := by
  have same : ∀ b o, ¬ (∃ p ∈ cs, p.2 = b) → s.heap.get? b = some o → s2.heap.get? b = some o := fun b o n e => by
    rcases only b with z | z | ⟨ob, xs, z⟩
    · exact u.keep b o e z List.not_mem_nil List.not_mem_nil
    · exact (n z).elim
    · have q1 := (h1 b _ z).1
      have q2 := (h2 b _ (u.frzs b ob _ z)).1
      rw [e] at q1
      rw [q2, Option.some.inj q1]
  have more : ∀ p ∈ cs, ∃ ps : Array Value, s2.heap.get? p.2 = some ({ cls := .none, data := .fields ps } : Obj) := fun p hp => by
    obtain ⟨ps, z⟩ := u.tbls p.2 #[] (tt p hp)
    exact ⟨_, h2 p.2 _ z⟩
  refine ⟨fun b o e => ?_, fun b o e => ?_⟩
  all_goals by_cases hb : ∃ p ∈ cs, p.2 = b
  · obtain ⟨p, hp, rfl⟩ := hb
    obtain ⟨ps, z⟩ := more p hp
    have e2 := e
    rw [tb p hp] at e2
    cases e2
    exact .inr (.inl ⟨((ch p hp).tab (tb p hp)).isCodeTable, rfl, #[], ps, rfl, by rw [Array.empty_append]; exact z⟩)
  · exact .inl (same b o hb e)
  · obtain ⟨p, hp, rfl⟩ := hb
    exact ⟨_, (more p hp).choose_spec⟩
  · exact ⟨o, same b o hb e⟩
end
/-- what is shown of the law behind the head: its promise, and the tables that it leans on -/
def LawG (l : PySem.W.OpenLaw) (w : World) (K : PySem.W.Frag) (k : Nat) (mg : Str → Option Value) (fa : Addr) (h : Heap) : Prop :=
  ∃ (cs : List (Addr × Addr)) (sp : Sp), (∀ p ∈ cs, h.get? p.2 = some ({ cls := .none, data := .fields #[] } : Obj)) ∧ (∀ p ∈ cs, K.lookup p.2 = Option.none) ∧ (∀ p ∈ cs, PySem.W.CodeHd h p.1 p.2) ∧
    (∀ (H : Hp) (a : Addr) (ns : List Int), ns.length ≤ 63 → (∀ z ∈ ns, Builtin.Int.intBits z ≤ 1048576) → (∀ p ∈ cs, H p.2 = some (.tbl #[])) → SqL K H a (ns.map V.int) → sp [.ref a] H (fun v _ => v = .bl true) fun _ _ _ => False) ∧
    ∀ base : Heap, K.In base → base.Ns mainGlobals mg → (∀ p ∈ cs, LamX.TabB base mg p.1 p.2) → FnG l.prog w K mg base CX0 k fa sp
/-- the table of the def x is empty behind the top -/
def TabOf (K : PySem.W.Frag) (mg : Str → Option Value) (h : Heap) (x : Str) : Prop := ∀ (f c P : Addr) (o : Obj) (fd : FuncData) (e : Value) (dd : Option Addr) (vs : Array Value) (sl : Array (Option Value)), mg x = some (.ref f) → K.lookup f = some o → o.data = .func fd → fd.code = .ref c →
  K.lookup c = some ⟨e, dd, .fields vs, sl⟩ → vs[11]? = some (.ref P) → h.get? P = some ({ cls := .none, data := .fields #[] } : Obj) ∧ PySem.W.CodeHd h c P
theorem walkG {l : PySem.W.OpenLaw} {k : Nat} {q : Program} {loose : List Str} {XP : (Str → Option Value) → Heap → Prop} {YP : World → Heap → Prop} {d : DefRec} {K : Params → PySem.W.Frag} (xs : List Str) (hxs : (xs.all fun x => (recsOf q).any fun e => e.name == x) = true)
    (hn : l.most = some 63) (hdf : d.params.defaults = []) (hr : Room k callerA) (hY : ∀ (w : World) (h : Heap), YP w h → (K w.params).In h)
    (F : ∀ (w : World) (mg : Str → Option Value) (fa : Addr) (h : Heap), (K w.params).In h → h.Ns mainGlobals mg → mg d.name = some (.ref fa) → (∀ x ∈ xs, TabOf (K w.params) mg h x) → LawG l w (K w.params) k mg fa h) :
    PySem.W.WalkO q loose XP YP l.row.toRowW d [] (fun f vs => PySem.call f vs) := by
  refine Att.attach_callB hn hdf fun w s₀ s mg mb fa o pm cd doc a vs ns G Y _ _ _ hmg hobj hints hlen hbits hg => ?_
  have KX := hY w _ Y
  have tabs : ∀ x ∈ xs, TabOf (K w.params) mg s.heap x := fun x hx f c P o fd e dd us sl m1 m2 m3 m4 m5 m6 => by
    obtain ⟨r, hr1, hr2⟩ := List.any_eq_true.mp (List.all_eq_true.mp hxs x hx)
    obtain ⟨f2, o2, fd2, c2, P2, t1, t2, t3, t4, t5, t6⟩ := G.T.tab r hr1
    rw [beq_iff_eq.mp hr2, m1] at t1
    cases t1
    rw [KX _ _ m2] at t2
    cases t2
    rw [m3] at t3
    cases t3
    rw [m4] at t4
    cases t4
    have hd := PySem.W.CodeHd.of t5 t6
    obtain ⟨⟨oc, vc, u1, _, u3, u4⟩, hP⟩ := t6
    rw [KX _ _ m5] at u1
    cases u1
    cases u3
    rw [m6] at u4
    cases u4
    exact ⟨hP, hd⟩
  obtain ⟨cs, sp, tb, tk, ch, hsp, FG⟩ := F w mg fa _ KX G.T.g hmg tabs
  obtain ⟨H, base, kin, ns1, TB, e0, tt, hS, only⟩ := entry (P := l.prog) (w := w) KX G.T.g G.T.b G.T.builtins G.T.nolimit hg tb tk ch G.T.bmain hobj hints (Nat.le_trans hlen (by decide))
  refine codeAny_mono (FG base kin ns1 TB callerA [] s H [.ref a] [.ref a] _ _ rfl hr e0 (.cons rfl .nil) (hsp H a ns hlen hbits tt hS)) fun r s2 h => ?_
  match r, h with
  | .ok (.ret u), ⟨v, H2, os, bare, un, hok, rel, e⟩ =>
    have e' : v = .bl true := e
    subst e'
    have eu : u = Value.bool true := rel
    subst eu
    exact ⟨rfl, leave tb ch tt only e0.hok un hok, os, bare⟩

/-! ### repr of values among which dicts may be -/
/-- a list display; the new list is not the table of modules -/
theorem pe_lstN {X : Cx} {es : List Expr} {t : TA} {pos : Pos} (h : PA X es t) : PE X (.List es pos) (fun σ H Q => t σ H fun xs H1 => xs.length ≤ sizeLine ∧ ∀ p, p ≠ sysModules → H1 p = Option.none → Q (.ref p) (upd H1 p (.lst xs))) := by
  refine ⟨fun pins s σ H Q I hq => wpAny_List_spliced (thn (h.run pos pins s σ H _ I hq) fun us s1 ⟨xs, H1, I1, r, z, q⟩ => ⟨by rw [← r.length]; exact z, ?_⟩)⟩
  have fresh : H1 s1.heap.objs.size = Option.none := I1.hok.fresh (Nat.le_refl _)
  refine ⟨.ref s1.heap.objs.size, upd H1 s1.heap.objs.size (.lst xs), I1.laid (t' := s1.toks) (fun b u e => Heap.get?_push_of_some _ e) (Nat.le_refl _) ⟨z, us, 0, r, Heap.get?_push_size _ rfl⟩, rfl, q _ (fun e => ?_) fresh⟩
  exact Nat.ne_of_gt I1.big e
/-- v is read as the datum d; no list or dict in it is the table of modules -/
inductive D1 (K : PySem.W.Frag) (H : Hp) : V → PyData → Prop where
  | non : D1 K H .non .none
  | bl (b : Bool) : D1 K H (.bl b) (.bool b)
  | int (i : Int) : D1 K H (.int i) (.int i)
  | str (x : Str) : D1 K H (.str x) (.str x)
  | ti {a : Addr} {is : List Int} : SqT K H a (is.map V.int) → D1 K H (.ref a) (.tuple (is.map PyData.int))
  | li {a : Addr} {is : List Int} : a ≠ sysModules → SqL K H a (is.map V.int) → D1 K H (.ref a) (.list (is.map PyData.int))
  | d0 {a : Addr} : H a = some (.dK []) → D1 K H (.ref a) (.dict [])
  | d1 {a : Addr} {x : Str} {i : Int} : H a = some (.dK [(.inr x, .int i)]) → D1 K H (.ref a) (.dict [(.str x, .int i)])
theorem reads_ints {h : Heap} : ∀ {is : List Int} {us : List Value}, Vals (is.map V.int) us → ReadsAll h us (is.map PyData.int) []
  | [], _, r => by cases r; exact .nil
  | i :: is, _, r => by
    cases r with
    | cons r1 r2 =>
      obtain ⟨t, rfl⟩ := r1
      exact ReadsAll.cons (as := []) (bs := []) (.int i t) (reads_ints r2)
theorem D1.reads {X : Cx} {pins : List (Addr × Obj)} {σ : L2.St} {H : Hp} {s : Shared} (I : Inv X pins σ H s) {v : V} {d : PyData} {u : Value} (h : D1 X.K H v d) (r : RelV v u) : ∃ as, Reads s.heap u d as ∧ sysModules ∉ as := by
  cases h with
  | non => cases r; exact ⟨_, .none, List.not_mem_nil⟩
  | bl b => cases r; exact ⟨_, .bool b, List.not_mem_nil⟩
  | int i => obtain ⟨t, rfl⟩ := r; exact ⟨_, .int i t, List.not_mem_nil⟩
  | str x => obtain ⟨t, rfl⟩ := r; exact ⟨_, .str x t, List.not_mem_nil⟩
  | ti hs =>
    cases r
    obtain ⟨its, rv, ⟨o, ho, hc, n, hd⟩, _⟩ := I.tuple hs
    exact ⟨_, Reads.tuple ho hc hd (reads_ints rv), List.not_mem_nil⟩
  | li na hs =>
    cases r
    obtain ⟨its, rv, ⟨o, n, ho, hc, _, hd⟩, _⟩ := I.list hs
    exact ⟨_, Reads.list ho hc hd (reads_ints rv), fun z => na (List.mem_singleton.mp z).symm⟩
  | @d0 a h =>
    obtain rfl : u = Value.ref a := r
    obtain ⟨_, ns, vs, kv, o, es, ep, e1, e2, e3, e4⟩ := (show ObjOk X.prog X.w H s.heap a (.dK []) from I.hok a _ h)
    cases kv
    have e5 : es.toList = [] := by
      have e6 := e4.2.1
      generalize es.toList = l at e6
      cases e6
      rfl
    refine ⟨[a] ++ [] ++ [], Reads.dict e1 e2.1 e3 (by rw [e5]; exact .nil) (by rw [e5]; exact .nil), fun z => ?_⟩
    have z' : sysModules = a := by simpa using z
    rw [← z'] at ns
    simp at ns
  | @d1 a x i h =>
    obtain rfl : u = Value.ref a := r
    obtain ⟨_, ns, vs, kv, o, es, ep, e1, e2, e3, e4⟩ := (show ObjOk X.prog X.w H s.heap a (.dK [(.inr x, .int i)]) from I.hok a _ h)
    cases kv with
    | @cons p q ps qs hh tt =>
    cases tt
    have e6 := e4.2.1
    generalize hl : es.toList = l at e6
    cases e6 with
    | @cons en kv es2 kvs2 hk hv rest =>
    cases rest
    obtain ⟨hx, hw⟩ := hh
    obtain ⟨t2, hw⟩ := hw
    have hk2 : keyIs q.1 en.key = true := hk
    rw [← hx] at hk2
    rcases keyIs_shape hk2 with ⟨j, t, z, _⟩ | ⟨y, t, z, z2⟩
    · cases z
    · cases z
      refine ⟨_, Reads.dict e1 e2.1 e3 (kvs := [(.str x, .int i)]) (as := []) (bs := []) (by rw [hl]; exact ReadsAll.cons (as := []) (bs := []) (by show Reads s.heap en.key (.str x) []; rw [z2]; exact .str _ _) .nil) (by rw [hl]; exact ReadsAll.cons (as := []) (bs := []) (by show Reads s.heap en.val (.int i) []; rw [hv, hw]; exact .int _ _) .nil), fun m => ?_⟩
      have m' : sysModules = a := by simpa using m
      rw [← m'] at ns
      simp at ns
/-- such a value, or a list of two such values -/
inductive Dq (K : PySem.W.Frag) (H : Hp) : V → PyData → Prop where
  | one {v : V} {d : PyData} : D1 K H v d → Dq K H v d
  | two {a : Addr} {x y : V} {dx dy : PyData} : a ≠ sysModules → SqL K H a [x, y] → D1 K H x dx → D1 K H y dy → Dq K H (.ref a) (.list [dx, dy])
theorem Dq.reads {X : Cx} {pins : List (Addr × Obj)} {σ : L2.St} {H : Hp} {s : Shared} (I : Inv X pins σ H s) {v : V} {d : PyData} {u : Value} (h : Dq X.K H v d) (r : RelV v u) : ∃ as, Reads s.heap u d as ∧ sysModules ∉ as := by
  cases h with
  | one h => exact h.reads I r
  | two na hs hx hy =>
    cases r
    obtain ⟨its, rv, ⟨o, n, ho, hc, _, hd⟩, _⟩ := I.list hs
    cases rv with
    | cons r1 rv =>
    cases rv with
    | cons r2 rv =>
    cases rv
    obtain ⟨as, q1, m1⟩ := hx.reads I r1
    obtain ⟨bs, q2, m2⟩ := hy.reads I r2
    refine ⟨_, Reads.list ho hc hd (.cons q1 (.cons q2 .nil)), fun z => ?_⟩
    rcases List.mem_cons.mp z with z | z
    · exact na z.symm
    · rcases List.mem_append.mp z with z | z
      · exact m1 z
      · rcases List.mem_append.mp z with z | z
        · exact m2 z
        · exact List.not_mem_nil z
def rRep (K : PySem.W.Frag) : List V → Hp → VK → Prop := fun vs H Q => ∃ v d, vs = [v] ∧ Dq K H v d ∧ d.showable = true ∧ d.depth ≤ 60 ∧ d.shown.length ≤ sizeLine ∧ Q (.str d.shown) H
theorem call_rep {X : Cx} (gu : X.A.guards = some []) (hu : X.A.units + 64 < cLine) : CallR X (.builtin "repr") (rRep X.K) := by
  intro pins s σ H xs us Q I r h
  obtain ⟨v, d, rfl, hd, h1, h2, h3, q⟩ := h
  obtain ⟨u, rfl, ru⟩ := vals1 r
  obtain ⟨as, rd, ns⟩ := hd.reads I ru
  have done : ∀ (h' : Heap) (t : Tok) (tk : Nat), (∀ b o, s.heap.get? b = some o → h'.get? b = some o) → EP X pins σ Q (.str d.shown t) { s with heap := h', toks := tk } := fun h' t tk k => ⟨.str d.shown, H, I.kept (t' := tk) k, ⟨t, rfl⟩, q⟩
  have same : ∀ t tk, EP X pins σ Q (.str d.shown t) { s with toks := tk } := fun t tk => done s.heap t tk fun _ _ z => z
  cases rd with
  | none => exact PySem.P.repr_of_none (same _ _)
  | bool b => exact PySem.P.repr_of_bool (same _ _)
  | int i t => exact PySem.P.repr_of_int (of_decide_eq_true h1) (same _ _)
  | str x t => exact PySem.P.repr_of_str (same _ _) h3
  | list e1 e2 e3 e4 => exact PySem.repr_of_reads' (.list e1 e2 e3 e4) h1 (fun _ => ns) gu (by omega) (fun _ _ z => z) (fun h' u tk k => done h' u tk k) h3
  | tuple e1 e2 e3 e4 => exact PySem.repr_of_reads' (.tuple e1 e2 e3 e4) h1 (fun _ => ns) gu (by omega) (fun _ _ z => z) (fun h' u tk k => done h' u tk k) h3
  | dict e1 e2 e3 e4 e5 => exact PySem.repr_of_reads' (.dict e1 e2 e3 e4 e5) h1 (fun _ => ns) gu (by omega) (fun _ _ z => z) (fun h' u tk k => done h' u tk k) h3
/-- v shows as one of the values that the law draws -/
def data16 : List PyData := [.none, .int 0, .int 1, .bool true, .bool false, .str "", .str "wheel 2 0 0", .str "a", .tuple [], .tuple [.int 1, .int 0], .list [], .list [.int 0], .dict [], .dict [(.str "x", .int 1)], .int (10 ^ 59), .int (-7)]
def Shw (K : PySem.W.Frag) (H : Hp) (v : V) : Prop := ∃ d, d ∈ data16 ∧ D1 K H v d
def fineD (d : PyData) : Bool := d.showable && decide (d.depth ≤ 60) && decide (d.shown.length ≤ sizeLine)
theorem fine16 : (data16.all fineD && data16.all fun d => data16.all fun e => fineD (.list [d, e])) = true := by decide +kernel
theorem fine_of {d : PyData} (h : fineD d = true) : d.showable = true ∧ d.depth ≤ 60 ∧ d.shown.length ≤ sizeLine := by
  simp only [fineD, Bool.and_eq_true, decide_eq_true_eq] at h
  exact ⟨h.1.1, h.1.2, h.2⟩
theorem fine1 {d : PyData} (h : d ∈ data16) : d.showable = true ∧ d.depth ≤ 60 ∧ d.shown.length ≤ sizeLine := by
  have q := fine16
  rw [Bool.and_eq_true] at q
  exact fine_of (List.all_eq_true.mp q.1 d h)
theorem fine2 {d e : PyData} (h : d ∈ data16) (h2 : e ∈ data16) : (PyData.list [d, e]).showable = true ∧ (PyData.list [d, e]).depth ≤ 60 ∧ (PyData.list [d, e]).shown.length ≤ sizeLine := by
  have q := fine16
  rw [Bool.and_eq_true] at q
  exact fine_of (List.all_eq_true.mp (List.all_eq_true.mp q.2 d h) e h2)

/-! ### an error that is caught and kept -/
/-- at a: an exception of the class cls whose own dict is d -/
def XO (a : Addr) (cls : Value) (d : Option Addr) : HO := .ext fun h => ∃ (o : Obj) (vs : Array Value), h.get? a = some o ∧ Zc cls d o ∧ o.data = .fields vs
theorem XO_at {P : Program} {w : World} {H : Hp} {h : Heap} {a : Addr} {cls : Value} {d : Option Addr} (hok : HOk P w H h) (e : H a = some (XO a cls d)) : ∃ (o : Obj) (vs : Array Value), h.get? a = some o ∧ Zc cls d o ∧ o.data = .fields vs := by
  have x : ObjOk P w H h a (.ext fun h => ∃ (o : Obj) (vs : Array Value), h.get? a = some o ∧ Zc cls d o ∧ o.data = .fields vs) := hok a _ e
  exact x.1
theorem XO_ne {a : Addr} {cls : Value} {d : Option Addr} {u : HO} (h : ∀ φ, u ≠ .ext φ) : XO a cls d ≠ u := fun z => h _ z.symm
/-- an object that stands in the heap since the entry is taken up -/
theorem track {X : Cx} {pins : List (Addr × Obj)} {σ : L2.St} {H : Hp} {s : Shared} {a : Addr} {cls : Value} {d : Option Addr} {o : Obj} {vs : Array Value} (I : Inv X pins σ H s) (ha : s.heap.get? a = some o) (hz : Zc cls d o) (hd : o.data = .fields vs) (na : H a = Option.none)
    (n0 : X.s_0.heap.get? a = Option.none) (np : ∀ p ∈ X.pn ++ pins, p.1 ≠ a) (nL : a ≠ X.env.locals) : Inv X pins σ (upd H a (XO a cls d)) s := by
  have other : ∀ b u, H b = some u → b ≠ a := fun b u e => ne_of_none e na
  have cell : ∀ x c, X.env.cells.lookup x = some c → c ≠ a := fun x c e z => by
    obtain ⟨v, oc, q1, q2⟩ := I.cell x c e
    rw [z, ha] at q1
    cases q1
    rw [hd] at q2
    cases q2
  have start0 : ∀ b u, X.s_0.heap.get? b = some u → b ≠ a := fun b u e z => by
    rw [z, n0] at e
    cases e
  have B := I.base
  exact { ok := I.ok, os := I.os, bare := I.bare, loc := I.loc, cell := I.cell, len := I.len
          base := { keep := B.keep, slot := B.slot, there := B.there
                    free := fun b u e1 e2 e3 => by rw [upd_ne (start0 b u e1)]; exact B.free b u e1 e2 e3
                    tups := fun b xs e => by rw [upd_ne (other b _ (B.tups b xs e))]; exact B.tups b xs e
                    frzs := fun b ob u e => by rw [upd_ne (other b _ (B.frzs b ob u e))]; exact B.frzs b ob u e
                    tbls := fun b ps e => by
                      obtain ⟨more, q⟩ := B.tbls b ps e
                      exact ⟨more, by rw [upd_ne (other b _ q)]; exact q⟩ }
          free := by rw [upd_ne (Ne.symm nL)]; exact I.free
          freeC := fun x c e => by rw [upd_ne (cell x c e)]; exact I.freeC x c e
          pin := fun p hp => by
            obtain ⟨q1, q2, q3⟩ := I.pin p hp
            exact ⟨q1, by rw [upd_ne (np p hp)]; exact q2, q3⟩
          hok := fun b u e => by
            by_cases hb : b = a
            · rw [hb, upd_same] at e
              cases e
              rw [hb]
              exact ⟨⟨o, vs, ha, hz, hd⟩, ⟨o, ha⟩, fun h1 h2 ⟨o1, v1, q1, q2⟩ k => ⟨o1, v1, k _ q1, q2⟩⟩
            · rw [upd_ne hb] at e
              exact (I.hok b u e).stay (fun _ _ _ q => q) (fun c q => by rw [upd_ne (other c _ q)]; exact q) fun c xs q => by rw [upd_ne (other c _ q)]; exact q }
/-- what the clause «except x as n» wishes, the error kept behind it -/
def wKeep (K : PySem.W.Frag) (c : Value) (i : Nat) (ts : Addr → Value → Option Addr → TS) (D : Ends) : WX := fun cls d σ H =>
  PySem.W.exmOne K cls c = some true ∧ ∀ a, H a = Option.none → ts a cls d { nx := fun σ1 H1 => H1 a = Option.none → D.nx (σ1.set i Option.none) (upd H1 a (XO a cls d)), rt := fun _ _ => False } (σ.set i (some (.ref a))) H
section
variable {X : Cx} {x n : Str} {c : Value} {i : Nat} {body suite : List Stmt} {b₀ : Stmt} {np pos pos' : Pos} {tb : WX → TS} {ts : Addr → Value → Option Addr → TS}
theorem ps_try_keep (hs : X.stack = X.env :: X.outer) (hf : X.env.frame = some X.env.locals) (hex : X.ex = []) (hN : X.N.Nodup) (hi : X.N[i]? = some n) (hln : X.env.kindOf n = some .local) (hc : Names X x c)
    (hb : ∀ (W : WX) (pn : List (Addr × Obj)) (xe : Value → Shared → Prop), Takes (X.tr pn xe) W → PassesOwn (model X.prog X.w) X.A X.env xe → PSs (X.tr pn xe) body (tb W))
    (hsu : ∀ (a : Addr) (oe : Obj) (cls : Value) (d : Option Addr) (pn : List (Addr × Obj)), Zc cls d oe → (∃ vs, oe.data = .fields vs) → PSs (X.suite a ((a, oe) :: pn)) (b₀ :: suite) (ts a cls d)) :
    PS X (.Try body [.ExceptHandler (some (.Name x np)) (some n) (b₀ :: suite) pos'] [] [] pos) (fun D σ H => tb (wKeep X.K c i ts D) D σ H) := by
  refine ⟨fun pins s σ H D I h => wpAny_Try_except ?_⟩
  have ok := I.ok
  have frames : X.A.frames = some (X.env :: X.outer) := ok.frames.trans (by rw [hs])
  have R := (hb (wKeep X.K c i ts D) (X.pn ++ pins)
    (fun e q1 => wpAny (model X.prog X.w) X.A (noteFrame e X.env) (fun _ q2 => wpAny (model X.prog X.w) X.A (setFlight e none) (fun _ q3 => wpAny (model X.prog X.w) X.A (handleBy e X.env [.ExceptHandler (some (.Name x np)) (some n) (b₀ :: suite) pos']) (SP X pins D) X.xe q3) X.xe q2) X.xe q1)
    (fun u q xx => ?caught) PassesOwn.looking).run [] s σ H D (I.toTry _) h
  case caught =>
    obtain ⟨a, B, t, ps1, σ1, H1, cls, d, rfl, J0, ground, upto, sky, na, os, ag, yes, rest⟩ := xx
    have J : Inv X pins σ1 H1 t := J0.ofTry ok
    show wpAny (model X.prog X.w) X.A (noteFrame (.ref a) X.env) _ _ _
    refine Sky.land Zc.steady frames hf (hs ▸ sky) fun hp fl upto2 => ?_
    have J1 : Inv X pins σ1 H1 { q with heap := hp } := J.landed ground fl.1 (upto.trans upto2) os ag
    obtain ⟨o1, v1, at1, z1, d1⟩ := fl.there
    have nfr : a ∉ frs (X.env :: X.outer) := fun hm => by
      obtain ⟨_, o2, e2, nd⟩ := fl.2.2.1.mem hm
      rw [at1] at e2
      cases e2
      exact nd _ d1
    have nL : a ≠ X.env.locals := fun z => nfr (List.mem_filterMap.mpr ⟨X.env, List.mem_cons_self, by rw [hf, z]⟩)
    have nF : a ∉ X.fs := fun hm => by
      obtain ⟨e, he, z⟩ := List.mem_filterMap.mp hm
      exact nfr (List.mem_filterMap.mpr ⟨e, List.mem_cons_of_mem _ he, z⟩)
    -- it did not stand there
    have nt : t.heap.get? a = Option.none := by
      match z : t.heap.get? a with
      | Option.none => rfl
      | some o2 =>
        have z2 := ground a o2 z (by rw [hs]; exact nfr)
        rw [fl.2.1] at z2
        cases z2
    have n0 : X.s_0.heap.get? a = Option.none := by
      match z : X.s_0.heap.get? a with
      | Option.none => rfl
      | some o2 =>
        obtain ⟨o3, z3⟩ := J.base.there a o2 z (by rw [hex]; exact List.not_mem_nil)
        rw [nt] at z3
        cases z3
    have npn : ∀ p ∈ X.pn ++ pins, p.1 ≠ a := fun p hp z => by
      have z2 := (J.pin p hp).1
      rw [z, nt] at z2
      cases z2
    have S1 := J1.suite at1 d1 na nL nF
    refine wpAny_handleBy_cons (codeAny_handlers_test ?_) (by intro z; cases z)
    have kind : PySem.W.Looks (model X.prog X.w) hp (typeOf (.ref a)) cls := fun A Q E s1 k z => wpAny_typeOf_ref (k _ _ at1) (by rw [z1.1]; exact z)
    have meets := PySem.W.exm_one (M := model X.prog X.w) J1.kIn kind yes
    have look : ∀ {Q : Value → Shared → Prop} {E : Value → Shared → Prop}, Q c { q with heap := hp } → wpAny (model X.prog X.w) (X.A.mark (some (.ref a))) (eval (.Name x np) X.env) Q E { q with heap := hp } := fun {Q E} z => by
      obtain ⟨g1, g2, g3⟩ := hc
      rcases g3 with g3 | ⟨g3, g4, g5⟩
      · exact ld_glob (X := X.suite a ((a, o1) :: (X.pn ++ pins))) S1 g1 g3 z g2
      · exact ld_blt (X := X.suite a ((a, o1) :: (X.pn ++ pins))) S1 g1 g3 g4 z g5 g2
    refine look (meets.here (codeAny_handlers_suite_as (HandSPX.lands_againZ fl fun hp2 fl2 upto3 => ?_)))
    have J2 : Inv X pins σ1 H1 { q with heap := hp2 } := J.landed ground fl2.1 ((upto.trans upto2).trans upto3) os ag
    obtain ⟨o2, v2, at2, z2, d2⟩ := fl2.there
    refine store_ok (X := X.suite a ((a, o2) :: (X.pn ++ pins))) (v := .ref a) (J2.suite at2 d2 na nL nF) hN hi (.inl hln) rfl (fun s5 S5 => ?_) (.inr hln)
    refine wpAny_mono ((hsu a o2 cls d (X.pn ++ pins) z2 ⟨_, d2⟩).run [] s5 _ H1 _ S5 (rest a na)) (fun f s6 hsp => ?_) (fun _ _ z => z.elim)
    match f, hsp with
    | .next, ⟨σ6, H6, S6, q6⟩ =>
      obtain ⟨p1, p2, _⟩ := S6.pin (a, o2) (List.mem_append_left _ List.mem_cons_self)
      have J6 := track (S6.unsuite ok) p1 z2 d2 p2 n0 npn nL
      exact gone_ok J6 hN hi hln fun s7 J7 => ⟨_, _, J7, q6 p2⟩
    | .ret u, ⟨_, _, _, _, _, z⟩ => exact z.elim
    | .brk, ⟨_, _, _, z⟩ => exact z.elim
    | .cont, ⟨_, _, _, z⟩ => exact z.elim
  refine wpAny_mono R (fun f s1 hsp => ?_) fun e s1 he => he
  match f, hsp with
  | .next, ⟨σ1, H1, J, q⟩ => exact wpAny_execs_nil ⟨σ1, H1, J.ofTry ok, q⟩
  | .ret u, ⟨v, σ1, H1, J, r, q⟩ => exact ⟨v, σ1, H1, J.ofTry ok, r, q⟩
  | .brk, ⟨σ1, H1, J, q⟩ => exact ⟨σ1, H1, J.ofTry ok, q⟩
  | .cont, ⟨σ1, H1, J, q⟩ => exact ⟨σ1, H1, J.ofTry ok, q⟩
end
/-- what the written part says of an error's class C -/
structure ErrC (K : PySem.W.Frag) (C : Addr) : Prop where
  cl : (PySem.W.clsIn K C).isSome = true
  ga : PySem.W.findIn K (.ref C) "__getattribute__" = some (some (.builtin "BaseException.__getattribute__"))
  gg : PySem.W.findIn K (.ref C) "__getattr__" = some Option.none
  ex : PySem.W.subIn K (.ref C) (.type "BaseException") = some true
  hd : PySem.W.hasDictIn K C = true
  ha : PySem.W.findIn K (.ref C) "__class__" = some (some (.builtin "object.__class__"))
  hn : PySem.W.specialIn K (.builtin "object.__class__") "__get__" = some (some (.builtin "getset_descriptor.__get__"))
  ht : PySem.W.takesIn K (.builtin "object.__class__") = some true
  hm : PySem.W.mroIn K C (.type "object") = some true
theorem XO_inst {X : Cx} {pins : List (Addr × Obj)} {σ : L2.St} {H : Hp} {s : Shared} {a C d : Addr} {fs : List (Str × V)} (I : Inv X pins σ H s) (e : H a = some (XO a (.ref C) (some d))) (ed : H d = some (.xd fs)) :
    ∃ (o od : Obj), PySem.W.InstAt s.heap a o C (some od) ∧ ∃ mA : Str → Option Value, (∀ f, RelO (fs.lookup f) (mA f)) ∧ ∀ f : Str, PySem.W.lookIn f od = some (mA f) := by
  obtain ⟨o, vs, h1, h2, h3⟩ := XO_at I.hok e
  obtain ⟨mA, hns, hr⟩ := (show ObjOk X.prog X.w H s.heap d (.xd fs) from I.hok d _ ed)
  obtain ⟨od, ho, hl⟩ := lookIn_ns hns
  exact ⟨o, od, ⟨h1, h2.1, by unfold PySem.W.notCls; rw [h3] <;> rfl, by rw [h2.2]; exact ho⟩, mA, hr, hl⟩
/-- isinstance(e, c), e kept -/
def rIsK (K : PySem.W.Frag) : List V → Hp → VK → Prop := fun xs H Q => ∃ (a C d : Addr) (fs : List (Str × V)) (c : V) (cv : Value) (b : Bool), xs = [.ref a, c] ∧ H a = some (XO a (.ref C) (some d)) ∧ H d = some (.xd fs) ∧ ErrC K C ∧ (∀ u, RelV c u → u = cv) ∧ PySem.W.kitOne K (.ref C) cv = some b ∧ Q (.bl b) H
theorem call_isK {X : Cx} : CallR X (.builtin "isinstance") (rIsK X.K) := by
  intro pins s σ H xs us Q I r h
  obtain ⟨a, C, d, fs, c, cv, b, rfl, e, ed, T, hc, k, q⟩ := h
  obtain ⟨u1, u2, rfl, r1, r2⟩ := vals2 r
  obtain rfl : u1 = Value.ref a := r1
  have e2 := hc _ r2
  subst e2
  obtain ⟨o, od, J, _⟩ := XO_inst I e ed
  exact PySem.W.kia_one (PySem.W.kitx_exc T.cl T.ga T.gg T.ex T.ha T.hn T.ht T.hm) I.kIn J k (fun z => nomatch z) fun tk => ⟨.bl b, H, I.kept (t' := tk) fun _ _ z => z, rfl, q⟩
/-- e.f, e kept -/
def tFldK (K : PySem.W.Frag) (f : Str) (te : TE) : TE := fun σ H Q => te σ H fun x H1 => ∃ (a C d : Addr) (fs : List (Str × V)) (v : V), x = .ref a ∧ H1 a = some (XO a (.ref C) (some d)) ∧ H1 d = some (.xd fs) ∧ ErrC K C ∧ PySem.W.findIn K (.ref C) f = some Option.none ∧ fs.lookup f = some v ∧ Q v H1
theorem pe_fldK {X : Cx} {e : Expr} {te : TE} {f : Str} {pos : Pos} (he : PE X e te) (hb : attributeBase e f X.env (eval e X.env) = eval e X.env := by rfl) : PE X (.Attribute e f pos) (tFldK X.K f te) := by
  refine ⟨fun pins s σ H Q I h => attr_of hb (thn (he.run pins s σ H _ I h) fun u s1 hh => ?_)⟩
  obtain ⟨y, H1, I1, ry, a, C, d, fs, v, rfl, ea, ed, T, no, l, q⟩ := hh
  obtain rfl : u = Value.ref a := ry
  obtain ⟨o, od, J, mA, hr, hl⟩ := XO_inst I1 ea ed
  obtain ⟨u, hu, ru⟩ := RelO.some_of (v := v) (o := mA f) (by rw [← l]; exact hr f)
  exact HandSPX.exc_get I1.kIn J T.ga T.gg T.ex (PySem.W.findObj_own T.hd no rfl (by rw [hl, hu])) (handed_of ru) ⟨v, H1, I1.tok _, ru, q⟩

/-- an error that is made and not raised is a value -/
theorem pe_kept {X : Cx} {e : Expr} {t : L2.St → Hp → XK → Prop} (he : PMk X e t) : PE X e (fun σ H Q => t σ H fun cls d H' => ∀ a, H' a = Option.none → Q (.ref a) (upd H' a (XO a cls d))) := by
  refine ⟨fun pins s σ H Q I h => ?_⟩
  refine thn (he pins s σ H _ I h) fun u s1 hu => ?_
  obtain ⟨a, oe, vs, sI, H', cls, d, rfl, J, k, hne, ha, hz, hd, h1, na, os, ag, r, q⟩ := hu
  have J2 := Inv.laidN (h' := s1.heap) (o := XO a cls d) (t' := s1.toks) J k hne na ⟨⟨oe, vs, ha, hz, hd⟩, ⟨oe, ha⟩, fun h1 h2 ⟨o1, v1, q1, q2⟩ k => ⟨o1, v1, k _ q1, q2⟩⟩
  exact ⟨.ref a, _, { ok := J2.ok, os := os.trans J.os, bare := ag, loc := J2.loc, cell := J2.cell, base := J2.base, free := J2.free, freeC := J2.freeC, pin := J2.pin, hok := J2.hok, len := J2.len }, rfl, q a na⟩

--CUT
/-! ### an error made by the names of its fields -/
section
variable {prog : Program} {w : World} {A : Around} {R : Result → Shared → Prop} {h : Heap} {g : Array GenState} {d : Drawn} {t : Nat} {os : OsState}
variable {nm q : Str} {C N : Addr} {bs bm bmB rest : List Value} {kw : List (Str × Value)} {hdct ab : Bool} {sn : List Str} {sub : List Value} {col : Option Bool} {dd : Option Addr} {k0 k1 k2 k3 k5 : Option Value} {B newId initId : String}
theorem kw_check (F : ExcBaseFacts B newId initId bmB) (hT : ∀ y : String, bm.contains (.type y) = bmB.contains (.type y)) {M : Model} {Q : Unit → Shared → Prop} {E : Value → Shared → Prop}
    (hC : h.get? C = some (excClassObj nm q C N bs bm hdct sn sub ab col dd k0 k1 k2 k3 k5 newId)) (z : Q () ⟨h, g, d, t, os⟩) :
    wpAny M A (checkBuiltinCall newId ⟨.ref C :: rest, kw⟩) Q E ⟨h, g, d, t, os⟩ := by
  have has : (Value.ref C :: bm).contains (.type B) = true := by
    rw [List.contains_cons, hT, F.hasB, Bool.or_true]
  have star := F.noStar
  simp only [checkBuiltinCall, F.newKind, F.newSplit, F.newRow]
  repeat (first
    | refine wpAny_loadPart_at hC ?_
    | (refine wpAny_isSubtype_exc hC ?_; rw [has])
    | refine wpAny_staticBase_exc hC ?_
    | refine wpAny_madeBy_exc hC ?_
    | simp only [bne_self_eq_false, Bool.false_eq_true, if_false]
    | wp_step)
  exact z
theorem kw_new (F : ExcBaseFacts B newId initId bmB) (hT : ∀ y : String, bm.contains (.type y) = bmB.contains (.type y))
    (hC : h.get? C = some (excClassObj nm q C N bs bm hdct sn sub ab col dd k0 k1 k2 k3 k5 newId))
    (z : R (.ok (.ret (.ref (h.objs.size + 1)))) ⟨(h.push (PySem.W.kdv_tup rest)).push (PySem.HandSPX.excO C h.objs.size), g, d, t, os⟩) (hl : rest.length ≤ sizeLine) :
    codeAny (model prog w) A (.builtin newId ⟨.ref C :: rest, kw⟩) R ⟨h, g, d, t, os⟩ := by
  have ends := F.ends
  have has : (Value.ref C :: bm).contains (.type B) = true := by
    rw [List.contains_cons, hT, F.hasB, Bool.or_true]
  have noA : (Value.ref C :: bm).contains (.type "AttributeError") = false := by
    rw [List.contains_cons, hT, F.noAttr]; rfl
  have noN : (Value.ref C :: bm).contains (.type "NameError") = false := by
    rw [List.contains_cons, hT, F.noName]; rfl
  refine codeAny_builtinAt F.entry ?_
  unfold Builtin.«BaseException.__new__»
  refine PySem.wpAt_bind ?_
  show PySem.wpAt _ _ _ (stack >>= _) _ _ _
  refine PySem.wpAt_bind (PySem.wpAt_stack fun p1 p2 => PySem.wpAt_of_wpAny ?_)
  wp_walk
  refine PySem.wpAt_of_wpAny ?_
  rw [F.owner]
  repeat (first
    | with_reducible refine wpAny_madeHere_exc F.canon hC ?_
    | with_reducible refine wpAny_loadPart_at hC ?_
    | (with_reducible refine wpAny_isSubtype_exc hC ?_; first | rw [has] | rw [noA] | rw [noN])
    | wp_step)
  show R _ _
  rw [Heap.size_push]
  exact z
theorem kw_type_call (F : ExcBaseFacts B newId initId bmB) (hT : ∀ y : String, bm.contains (.type y) = bmB.contains (.type y)) {fI : Addr} {Q : Fin → Shared → Prop} {E : Value → Shared → Prop}
    (hC : h.get? C = some (excClassObj nm q C N bs bm hdct sn sub ab col dd k0 k1 k2 k3 k5 newId))
    (hi : PySem.W.Looks (model prog w) h (typeLookup (.ref C) "__init__") (some (.ref fI))) (hb : ∀ me, PySem.W.Looks (model prog w) h (bindSpecial (.ref fI) me) (.ref fI, [me])) (hl : rest.length ≤ sizeLine)
    (z : codeAny (model prog w) A (.call (.ref fI) ⟨.ref (h.objs.size + 1) :: rest, kw⟩)
      (fun r s' => match r with | .ok (.ret v) => v = .none ∧ Q (.done (.ret (.ref (h.objs.size + 1)))) s' | .ok _ => False | .error e => E e s')
      ⟨(h.push (PySem.W.kdv_tup rest)).push (PySem.HandSPX.excO C h.objs.size), g, d, t, os⟩) :
    wpAny (model prog w) A (Builtin.«type.__call__» ⟨.ref C :: rest, kw⟩) Q E ⟨h, g, d, t, os⟩ := by
  repeat (first
    | with_reducible refine wpAny_loadPart_at hC ?_
    | with_reducible refine wpAny_madeBy_exc hC ?_
    | wp_step)
  refine codeAny_call_builtin_code (Code.quiet_builtin _ F.quiet) (kw_check F hT hC (kw_new F hT hC ?_ hl))
  show wpAny _ _ _ _ _ _
  have kk : ∀ b o, h.get? b = some o → ((h.push (PySem.W.kdv_tup rest)).push (PySem.HandSPX.excO C h.objs.size)).get? b = some o := fun b o e => Heap.get?_push_of_some _ (Heap.get?_push_of_some _ e)
  have hC1 := kk _ _ hC
  have hg : ((h.push (PySem.W.kdv_tup rest)).push (PySem.HandSPX.excO C h.objs.size)).get? (h.objs.size + 1) = some (PySem.HandSPX.excO C h.objs.size) := by
    heap_get
  have hs : (Value.ref C :: bm).contains (.ref C) = true := by
    simp
  have i1 := hi.keeps kk
  have b1 := (hb (.ref (h.objs.size + 1))).keeps kk
  unfold isInstance
  repeat (first
    | with_reducible refine wpAny_loadPart_at hg ?_
    | (with_reducible refine wpAny_isSubtype_exc hC1 ?_; rw [hs])
    | wp_step)
  show wpAny _ _ (typeLookup (.ref C) _) _ _ _
  refine i1.at ?_
  refine wpAny_holding (wpAny_bind (b1.at ?_))
  refine wpAny_bind (wpAny_call (codeAny_mono z fun r s' y => ?_))
  rcases r with e | (v | _ | _ | _) <;> first | exact y | exact y.elim | skip
  obtain ⟨rfl, y⟩ := y
  first
    | exact wpAny_pure (wpAny_pure y)
    | (wp_walk; exact y)
theorem kw_check_type {M : Model} {Q : Unit → Shared → Prop} {E : Value → Shared → Prop} (hC : h.get? C = some (excClassObj nm q C N bs bm hdct sn sub ab col dd k0 k1 k2 k3 k5 newId))
    (z : Q () ⟨h, g, d, t, os⟩) : wpAny M A (checkBuiltinCall "type.__call__" ⟨.ref C :: rest, kw⟩) Q E ⟨h, g, d, t, os⟩ := by
  have f3 := tc_sub
  have hy : (⟨h, g, d, t, os⟩ : Shared).TypeIs (.ref C) "type" := ⟨_, hC, rfl⟩
  simp only [checkBuiltinCall, tc_kind, tc_split]
  repeat (any_goals (first
    | assumption
    | with_reducible refine wpAny_loadPart_at hC ?_
    | with_reducible refine wpAny_onRaise ?_
    | with_reducible refine wpAny_map ?_
    | wp_step))
theorem kw_call (F : ExcBaseFacts B newId initId bmB) (hT : ∀ y : String, bm.contains (.type y) = bmB.contains (.type y)) {fI : Addr}
    (hC : h.get? C = some (excClassObj nm q C N bs bm hdct sn sub ab col dd k0 k1 k2 k3 k5 newId))
    (hi : PySem.W.Looks (model prog w) h (typeLookup (.ref C) "__init__") (some (.ref fI))) (hb : ∀ me, PySem.W.Looks (model prog w) h (bindSpecial (.ref fI) me) (.ref fI, [me])) (hl : rest.length ≤ sizeLine)
    (z : codeAny (model prog w) (A.under (.builtin "type.__call__" ⟨.ref C :: rest, kw⟩)) (.call (.ref fI) ⟨.ref (h.objs.size + 1) :: rest, kw⟩) (PySem.W.InitBack (h.objs.size + 1) R)
      ⟨(h.push (PySem.W.kdv_tup rest)).push (PySem.HandSPX.excO C h.objs.size), g, d, t, os⟩) :
    codeAny (model prog w) A (.call (.ref C) ⟨rest, kw⟩) R ⟨h, g, d, t, os⟩ := by
  have f1 := tc_lookup
  have f2 := tc_bind (.ref C)
  have hy : (⟨h, g, d, t, os⟩ : Shared).TypeIs (.ref C) "type" := ⟨_, hC, rfl⟩
  refine codeAny_of_tree ?_
  show wpAny _ _ (callAny (.ref C) _) _ _ _
  repeat (any_goals (first
    | assumption
    | with_reducible refine wpAny_loadPart_at hC ?_
    | wp_step))
  refine ⟨rfl, ?_⟩
  refine codeAny_call_builtin_at (Code.quiet_builtin _ (by decide +kernel)) entry_typeCall (kw_check_type hC (kw_type_call F hT hC hi hb hl ?_))
  refine codeAny_mono z fun r s' y => ?_
  rcases r with e | (v | _ | _ | _) <;> exact y
end

/-- C(k = v, ..): m keywords -/
def tMkK (C : Addr) (m : Nat) (sp : Sp) (gV : List V → List V → List V) (tk : TA) : L2.St → Hp → XK → Prop := fun σ H Q => tk σ H fun zs H1 => zs.length = m ∧ ∀ a, H1 a = Option.none → sp (gV [.ref a] zs) (upd H1 a (exo a C Option.none))
  (fun v H2 => v = .non ∧ ∃ (d : Addr) (fs : List (Str × V)), H2 a = some (exo a C (some d)) ∧ H2 d = some (exd d fs) ∧ H1 d = Option.none ∧ Q (.ref C) (some d) (upd (del H2 a) d (.xd fs))) (fun _ _ _ => False)
theorem pmk_kw {X : Cx} {CX : CXT} {x : Str} {C fI : Addr} {k : Nat} {fd : FuncData} {ps ks : List Str} {sp : Sp} {g : List Value → List Value → List Value} {gV : List V → List V → List V} {kws : List Keyword} {tk : TA} {p pos : Pos}
    (T : OexC X.K C) (iC : PySem.W.findIn X.K (.ref C) "__init__" = some (some (.ref fI))) (tI : PySem.W.typeIn X.K (.ref fI) = some (.type "function")) (F1 : FnOk X.prog X.w X.K X.mg X.base CX k fI fd ps sp) (hr : Room (k + 1) X.A) (hb : KBinds X.K fd ps ks g gV)
    (hx : Passes CX X (fun _ _ _ => False)) (hg : Gl X x) (hm : X.mg x = some (.ref C)) (hkw : PK X kws tk) (hall : (backToKw pos (keywordEach kws X.env)).all (·.1.isSome) = true := by rfl) (hks : (backToKw pos (keywordEach kws X.env)).filterMap (·.1) = ks := by rfl)
    (hdb : (x == ("__debug__" : Str)) = false := by decide) (hpl : ((backTo pos (starEach [] X.env)).any (·.1) || (backToKw pos (keywordEach kws X.env)).any (·.1.isNone)) = false := by rfl) :
    PMk X (.Call (.Name x p) [] kws pos) (tMkK C ks.length sp gV tk) := by
  intro pins s σ H Q I h
  obtain ⟨nm, q, N, bs, bm, sn, sub, ab, col, dd, k0, k1, k2, k3, k5, hC, hbm⟩ := T.cls
  refine wpAny_Call_Name_kw (ld_glob I hg hm ?_ hdb)
  refine PySem.W.callWith_KW0 (h₀ := X.base) I.ok.mod.kin T.kC hall (thn (hkw.run pos pins s σ H _ I h) fun ws s1 ⟨zs, H1, I1, rz, hz, q1⟩ => ⟨I1.kIn, ?_⟩) hpl
  rw [hks]
  show wpAny _ _ (call (.ref C) [] (ks.zip ws)) _ _ _
  obtain ⟨hp, g1, dr, tok, os⟩ := s1
  have hsz : hp.objs.size ≤ hp.objs.size + 1 := Nat.le_succ _
  have hn : H1 (hp.objs.size + 1) = Option.none := I1.hok.fresh hsz
  have hq := q1 (hp.objs.size + 1) hn
  have kk : ∀ b o, hp.get? b = some o → ((hp.push (PySem.W.kdv_tup [])).push (PySem.HandSPX.excO C hp.objs.size)).get? b = some o := fun b o e =>
    Heap.get?_push_of_some _ (Heap.get?_push_of_some _ e)
  have hget : ((hp.push (PySem.W.kdv_tup [])).push (PySem.HandSPX.excO C hp.objs.size)).get? (hp.objs.size + 1) = some (PySem.HandSPX.excO C hp.objs.size) := by
    heap_get
  have I2 : Inv X pins σ (upd H1 (hp.objs.size + 1) (exo (hp.objs.size + 1) C Option.none)) ⟨(hp.push (PySem.W.kdv_tup [])).push (PySem.HandSPX.excO C hp.objs.size), g1, dr, tok, os⟩ :=
    I1.laid (t' := tok) (a := hp.objs.size + 1) (o := exo (hp.objs.size + 1) C Option.none) (h' := (hp.push (PySem.W.kdv_tup [])).push (PySem.HandSPX.excO C hp.objs.size)) kk hsz (exo_ok hget)
  have me : Vals [V.ref (hp.objs.size + 1)] [Value.ref (hp.objs.size + 1)] := .cons rfl .nil
  have r2 := hb.rel me rz
  have hl : (g [Value.ref (hp.objs.size + 1)] ws).length = ps.length := by
    rw [← r2.length]
    exact F1.len _ _ _ _ hq
  refine wpAny_call (kw_call F.excBase_ValueError (fun y => PySem.HandSPX.refsVE_contains y bm hbm) (I1.kIn _ _ hC) (PySem.W.looks_findIn I1.kIn iC) (fun me => PySem.W.bind_fn I1.kIn me tI) (Nat.zero_le _)
    (codeAny_mono (F1.run _ X.stack _ _ ⟨[Value.ref (hp.objs.size + 1)], ks.zip ws⟩ (g [Value.ref (hp.objs.size + 1)] ws) _ _ (fun _ _ _ => False) (hr.make C [] (ks.zip ws)) (I2.env0.make C [] (ks.zip ws)) (hb.to _ [Value.ref (hp.objs.size + 1)] ws I2.kIn hl) r2 hq) fun r s2 hq2 => ?_))
  match r, hq2 with
  | .error er, hq2 => exact hx pins σ _ _ er s2 I2 hq2
  | .ok (.ret u), hq2 =>
    obtain ⟨v, H2, os2, bare2, un2, hok2, rv, ev, d, fs, ea, ed, hd1, q2⟩ := hq2
    subst ev
    obtain ⟨h2, g2, d2, t2, os3⟩ := s2
    exact ⟨rv, mk_end (raises_own T.exC T.tyC) I1 hsz kk un2 hok2 os2 bare2 ea ed hd1 q2⟩

--CUT
/-! ### errors as values -/
/-- an error of the class C with these fields is at a -/
def ErAt (H : Hp) (a C : Addr) (fs : List (Str × V)) : Prop := ∃ d, H a = some (XO a (.ref C) (some d)) ∧ H d = some (.xd fs)
theorem ErAt.same {H H' : Hp} {a C : Addr} {fs : List (Str × V)} (s : Same H H') (h : ErAt H a C fs) : ErAt H' a C fs := by
  obtain ⟨d, h1, h2⟩ := h
  exact ⟨d, s _ _ h1, s _ _ h2⟩
/-- an error of the class C, with fields or without, is at a -/
def Er (H : Hp) (a C : Addr) : Prop := (∃ fs, ErAt H a C fs) ∨ H a = some (XO a (.ref C) Option.none)
theorem Er.same {H H' : Hp} {a C : Addr} (s : Same H H') (h : Er H a C) : Er H' a C := by
  rcases h with ⟨fs, h⟩ | h
  · exact .inl ⟨fs, h.same s⟩
  · exact .inr (s _ _ h)
theorem Er.inst {X : Cx} {pins : List (Addr × Obj)} {σ : L2.St} {H : Hp} {s : Shared} {a C : Addr} (I : Inv X pins σ H s) (h : Er H a C) : ∃ (o : Obj) (od : Option Obj), PySem.W.InstAt s.heap a o C od := by
  rcases h with ⟨fs, d, e, ed⟩ | e
  · obtain ⟨o, od, J, _⟩ := XO_inst I e ed
    exact ⟨o, _, J⟩
  · obtain ⟨o, vs, h1, h2, h3⟩ := XO_at I.hok e
    exact ⟨o, Option.none, ⟨h1, h2.1, by unfold PySem.W.notCls; rw [h3] <;> rfl, by rw [h2.2]; trivial⟩⟩
/-- isinstance(e, c), e an error -/
def rIsE (K : PySem.W.Frag) : List V → Hp → VK → Prop := fun xs H Q => ∃ (a C : Addr) (c : V) (cv : Value) (b : Bool), xs = [.ref a, c] ∧ Er H a C ∧ ErrC K C ∧ (∀ u, RelV c u → u = cv) ∧ PySem.W.kitOne K (.ref C) cv = some b ∧ Q (.bl b) H
theorem call_isE {X : Cx} : CallR X (.builtin "isinstance") (rIsE X.K) := by
  intro pins s σ H xs us Q I r h
  obtain ⟨a, C, c, cv, b, rfl, e, T, hc, k, q⟩ := h
  obtain ⟨u1, u2, rfl, r1, r2⟩ := vals2 r
  obtain rfl : u1 = Value.ref a := r1
  have e2 := hc _ r2
  subst e2
  obtain ⟨o, od, J⟩ := e.inst I
  exact PySem.W.kia_one (PySem.W.kitx_exc T.cl T.ga T.gg T.ex T.ha T.hn T.ht T.hm) I.kIn J k (fun z => nomatch z) fun tk => ⟨.bl b, H, I.kept (t' := tk) fun _ _ z => z, rfl, q⟩
/-- readings of values whose answer may be weakened -/
def freeA (ta : TA) : TA := fun σ H Q => ∃ Q0, ta σ H Q0 ∧ ∀ vs H1, Q0 vs H1 → Q vs H1
theorem paFree {X : Cx} {es : List Expr} {ta : TA} (h : PA X es ta) : PA X es (freeA ta) :=
  ⟨fun pos pins s σ H Q I ⟨Q0, h0, h1⟩ => thn (h.run pos pins s σ H Q0 I h0) fun us s1 ⟨vs, H1, I1, r, q⟩ => ⟨vs, H1, I1, r, h1 _ _ q⟩⟩
/-- the init of an error whose fields are fs of its values -/
def spInit (C : Addr) (n : Nat) (fs : List V → List (Str × V)) : Sp := fun vs H Q _ => ∃ (a : Addr) (ws : List V), vs = .ref a :: ws ∧ ws.length = n ∧ H a = some (exo a C Option.none) ∧
  ∀ dx, H dx = Option.none → dx ≠ a → Q .non (upd (upd H dx (exd dx (fs ws))) a (exo a C (some dx)))
/-- what the written part says of an error with an init: named x, with fields fs of n values -/
structure ErrT (K : PySem.W.Frag) (mg : Str → Option Value) (x : Str) (n : Nat) (ns : List Str) (fs : List V → List (Str × V)) where
  C : Addr
  f : Addr
  fd : FuncData
  ps : List Str
  oex : OexC K C
  err : ErrC K C
  iC : PySem.W.findIn K (.ref C) "__init__" = some (some (.ref f))
  tI : PySem.W.typeIn K (.ref f) = some (.type "function")
  no : ∀ y ∈ ns, PySem.W.findIn K (.ref C) y = some Option.none
  m : mg x = some (.ref C)
  run : ∀ (P : Program) (w : World) (base : Heap), FnOk P w K mg base CX0 1 f fd ps (spInit C n fs)
  b : Binds K fd ps []
  kl : ns.length = n
  gk : (α : Type) → List α → List α → List α
  kb : KBinds K fd ps ns.reverse (gk Value) (gk V)
  kg : ∀ (a : V) (zs : List V), zs.length = n → gk V [a] zs = a :: zs.reverse
/-- how such a reading is answered -/
theorem err_fin {C : Addr} {n : Nat} {fs : List V → List (Str × V)} {H : Hp} {a : Addr} {ws : List V} {Q : XK} (hl : ws.length = n) (ha : H a = Option.none) (k : ∀ (d : Addr) (H2 : Hp), Same H H2 → H2 d = some (.xd (fs ws)) → Q (.ref C) (some d) H2) :
    spInit C n fs (.ref a :: ws) (upd H a (exo a C Option.none)) (fun v' H2 => v' = .non ∧ ∃ (d : Addr) (fs : List (Str × V)), H2 a = some (exo a C (some d)) ∧ H2 d = some (exd d fs) ∧ H d = Option.none ∧ Q (.ref C) (some d) (upd (del H2 a) d (.xd fs))) (fun _ _ _ => False) := by
  refine ⟨a, ws, rfl, hl, upd_same, fun dx h1 h2 => ⟨rfl, dx, _, upd_same, by rw [upd_ne h2, upd_same], ?_, ?_⟩⟩
  · rw [upd_ne h2] at h1; exact h1
  · have hd : H dx = Option.none := by rw [upd_ne h2] at h1; exact h1
    refine k dx _ (fun b o e => ?_) upd_same
    have n1 := ne_of_none e ha
    have n2 := ne_of_none e hd
    rw [upd_ne n2, del_ne n1, upd_ne n1, upd_ne n2, upd_ne n1]
    exact e
/-- x(e, ..), x an error: the error as a value -/
def tErr (C : Addr) (n : Nat) (fs : List V → List (Str × V)) (ta : TA) : TE := fun σ H Q => ta σ H fun vs H1 => vs.length = n ∧ ∀ a H2, Same H1 H2 → ErAt H2 a C (fs vs) → Q (.ref a) H2
theorem pe_weak {X : Cx} {e : Expr} {t t' : TE} (h : PE X e t) (k : ∀ σ H Q, t' σ H Q → t σ H Q) : PE X e t' := ⟨fun pins s σ H Q I q => h.run pins s σ H Q I (k _ _ _ q)⟩
theorem pe_err {X : Cx} {x : Str} {n : Nat} {ns : List Str} {fs : List V → List (Str × V)} {e : Expr} {es : List Expr} {ta : TA} {p pos : Pos} (T : ErrT X.K X.mg x n ns fs) (hn : n ≤ 1000) (hr : Room 2 X.A) (hg : Gl X x) (ha : PA X (e :: es) ta)
    (hdb : (x == ("__debug__" : Str)) = false := by decide) (hs : starEach (e :: es) X.env = (false, eval e X.env) :: starEach es X.env := by rfl) (hpl : (backTo pos (starEach es X.env)).any (·.1) = false := by rfl) :
    PE X (.Call (.Name x p) (e :: es) [] pos) (tErr T.C n fs ta) := by
  refine pe_weak (pe_kept (pmk_oex (CX := CX0) (dvs := []) (ds := []) T.oex T.iC T.tI (T.run _ _ _) hr T.b .nil (fun _ _ _ _ _ _ _ z => z.elim) hg T.m (paFree ha) hdb hs hpl)) fun σ H Q q => ⟨_, q, fun vs H1 ⟨hl, q1⟩ => ⟨by omega, fun a hn1 => ?_⟩⟩
  rw [List.append_nil]
  refine err_fin (Q := fun cls d H' => ∀ a2, H' a2 = Option.none → Q (.ref a2) (upd H' a2 (XO a2 cls d))) hl hn1 fun d H2 s2 hd a2 hn2 => q1 a2 _ (s2.trans (same_new hn2)) ⟨d, upd_same, ?_⟩
  rw [upd_ne (ne_of_none hd hn2)]
  exact hd
/-- x(k = v, ..), the last field first -/
def freeK (ta : TA) : TA := fun σ H Q => ∃ Q0, ta σ H Q0 ∧ ∀ vs H1, Q0 vs H1 → Q vs H1
theorem pkFree {X : Cx} {kws : List Keyword} {ta : TA} (h : PK X kws ta) : PK X kws (freeK ta) :=
  ⟨fun pos pins s σ H Q I ⟨Q0, h0, h1⟩ => thn (h.run pos pins s σ H Q0 I h0) fun us s1 ⟨vs, H1, I1, r, q⟩ => ⟨vs, H1, I1, r, h1 _ _ q⟩⟩
theorem pe_errK {X : Cx} {x : Str} {n : Nat} {ns : List Str} {fs : List V → List (Str × V)} {kws : List Keyword} {tk : TA} {p pos : Pos} (T : ErrT X.K X.mg x n ns fs) (hr : Room 2 X.A) (hg : Gl X x) (hk : PK X kws tk)
    (hall : (backToKw pos (keywordEach kws X.env)).all (·.1.isSome) = true := by rfl) (hks : (backToKw pos (keywordEach kws X.env)).filterMap (·.1) = ns.reverse := by rfl)
    (hdb : (x == ("__debug__" : Str)) = false := by decide) (hpl : ((backTo pos (starEach [] X.env)).any (·.1) || (backToKw pos (keywordEach kws X.env)).any (·.1.isNone)) = false := by rfl) :
    PE X (.Call (.Name x p) [] kws pos) (tErr T.C n (fun vs => fs vs.reverse) tk) := by
  refine pe_weak (pe_kept (pmk_kw (CX := CX0) T.oex T.iC T.tI (T.run _ _ _) hr T.kb (fun _ _ _ _ _ _ _ z => z.elim) hg T.m (pkFree hk) hall hks hdb hpl)) fun σ H Q q => ⟨_, q, fun vs H1 ⟨hl, q1⟩ => ⟨by rw [hl, List.length_reverse, T.kl], fun a hn1 => ?_⟩⟩
  have e9 := T.kg (V.ref a) vs hl
  rw [e9]
  refine err_fin (Q := fun cls d H' => ∀ a2, H' a2 = Option.none → Q (.ref a2) (upd H' a2 (XO a2 cls d))) (by rw [List.length_reverse]; exact hl) hn1 fun d H2 s2 hd a2 hn2 => q1 a2 _ (s2.trans (same_new hn2)) ⟨d, upd_same, ?_⟩
  rw [upd_ne (ne_of_none hd hn2)]
  exact hd
/-! ### errors without an init of their own -/
structure ErrN (K : PySem.W.Frag) (mg : Str → Option Value) (x : Str) where
  C : Addr
  own : ∃ bmB B newId initId, ExcBaseFacts B newId initId bmB ∧ PySem.W.excIn K C bmB newId = true
  err : ErrC K C
  tyC : PySem.W.typeIn K (.ref C) = some (.type "type")
  kC : PySem.W.keepIn K (.ref C) = true
  m : mg x = some (.ref C)
theorem pmk_own0 {X : Cx} {C : Addr} {bmB : List Value} {B newId initId : String} {x : Str} {p pos : Pos} (F : ExcBaseFacts B newId initId bmB) (q : PySem.W.excIn X.K C bmB newId = true) (gC : X.mg x = some (.ref C))
    (kC : PySem.W.keepIn X.K (.ref C) = true) (r : Raises X (.ref C)) (hg : Gl X x) (hdb : (x == ("__debug__" : Str)) = false := by decide) : PMk X (.Call (.Name x p) [] [] pos) (fun _ H Q => Q (.ref C) Option.none H) := by
  intro pins s σ H Q I h
  refine wpAny_Call_Name_kw (ld_glob I hg gC ?_ hdb)
  refine PySem.W.callWith_K0 I.kIn kC ?_
  show wpAny _ _ (call (.ref C) []) _ _ _
  obtain ⟨bm, N, nm, qn, bs, hdct, sn, sub, ab, col, dd, k0, k1, k2, k3, k5, mN, hC, hN, hni, T⟩ := exc_obj I.kIn q
  exact wpAny_call_exc_subT F T hC hN hni (fun h' e hm => mk_of I hm r h (I.hok.gone hm.new)) (Nat.zero_le _)
def tErr0 (C : Addr) : TE := fun _ H Q => ∀ a H2, Same H H2 → H2 a = some (XO a (.ref C) Option.none) → Q (.ref a) H2
theorem pe_err0 {X : Cx} {x : Str} {p pos : Pos} (T : ErrN X.K X.mg x) (hg : Gl X x) (hdb : (x == ("__debug__" : Str)) = false := by decide) : PE X (.Call (.Name x p) [] [] pos) (tErr0 T.C) := by
  obtain ⟨bmB, B, newId, initId, F, q⟩ := T.own
  exact pe_weak (pe_kept (pmk_own0 F q T.m T.kC (raises_own T.err.ex T.tyC) hg hdb)) fun σ H Q h a hn => h a _ (same_new hn) upd_same
theorem pe_errS {X : Cx} {x m : Str} {j : Nat} {p p2 pos : Pos} (T : ErrN X.K X.mg x) (hg : Gl X x) (hdb : (x == ("__debug__" : Str)) = false := by decide) : PE X (.Call (.Name x p) [.Constant (.str m) j p2] [] pos) (tErr0 T.C) := by
  obtain ⟨bmB, B, newId, initId, F, q⟩ := T.own
  exact pe_weak (pe_kept (pmk_own F q T.m T.kC (raises_own T.err.ex T.tyC) hg hdb)) fun σ H Q h a hn => h a _ (same_new hn) upd_same
/-- the same readings, told of a written part that the context's is -/
theorem pe_fld2 {X : Cx} {e : Expr} {te : TE} {f : Str} {pos : Pos} (K : PySem.W.Frag) (hK : X.K = K) (he : PE X e te) (hb : attributeBase e f X.env (eval e X.env) = eval e X.env := by rfl) : PE X (.Attribute e f pos) (tFldK K f te) := by
  subst hK
  exact pe_fldK he hb
theorem call_rep2 {X : Cx} (K : PySem.W.Frag) (hK : X.K = K) (gu : X.A.guards = some []) (hu : X.A.units + 64 < cLine) : CallR X (.builtin "repr") (rRep K) := by
  subst hK
  exact call_rep gu hu
theorem call_isE2 {X : Cx} (K : PySem.W.Frag) (hK : X.K = K) : CallR X (.builtin "isinstance") (rIsE K) := by
  subst hK
  exact call_isE

--CUT
/-! ### the inits of the errors -/
/-- two puts in one dict, the error's own put between -/
theorem two_up {H : Hp} {a d : Addr} {x y z : HO} (h : d ≠ a) : upd (upd (upd H d x) a z) d y = upd (upd H d y) a z := by
  funext b
  by_cases hb : b = d
  · rw [hb, upd_same, upd_ne h, upd_same]
  · rw [upd_ne hb]
    by_cases hc : b = a
    · rw [hc, upd_same, upd_same]
    · rw [upd_ne hc, upd_ne hc, upd_ne hb, upd_ne hb]
def gk1 (α : Type) : List α → List α → List α
  | [a], [b] => [a, b]
  | _, _ => []
def gk2 (α : Type) : List α → List α → List α
  | [a], [b, c] => [a, c, b]
  | _, _ => []
theorem kb_rev1 {K : PySem.W.Frag} {fd : FuncData} {p1 p2 k1 : Str} (h : ∀ (a b : Value) (s : Shared), BindsTo s fd ⟨[a], [(k1, b)]⟩ [(p1, a), (p2, b)]) : KBinds K fd [p1, p2] [k1] (gk1 Value) (gk1 V) := by
  refine ⟨fun s us ws _ hl => ?_, fun {vs us zs ws} r rz => ?_⟩
  · match us, ws, hl with
    | [a], [b], _ => exact h a b s
    | [], _, h => simp [gk1] at h
    | [_], [], h => simp [gk1] at h
    | [_], _ :: _ :: _, h => simp [gk1] at h
    | _ :: _ :: _, _, h => simp [gk1] at h
  · match vs, us, zs, ws, r, rz with
    | _, _, _, _, .nil, _ => exact .nil
    | _, _, _, _, .cons _ .nil, .nil => exact .nil
    | _, _, _, _, .cons r1 .nil, .cons r2 .nil => exact .cons r1 (.cons r2 .nil)
    | _, _, _, _, .cons _ .nil, .cons _ (.cons _ _) => exact .nil
    | _, _, _, _, .cons _ (.cons _ _), _ => exact .nil
theorem kb_rev2 {K : PySem.W.Frag} {fd : FuncData} {p1 p2 p3 k1 k2 : Str} (h : ∀ (a b c : Value) (s : Shared), BindsTo s fd ⟨[a], [(k1, b), (k2, c)]⟩ [(p1, a), (p2, c), (p3, b)]) : KBinds K fd [p1, p2, p3] [k1, k2] (gk2 Value) (gk2 V) := by
  refine ⟨fun s us ws _ hl => ?_, fun {vs us zs ws} r rz => ?_⟩
  · match us, ws, hl with
    | [a], [b, c], _ => exact h a b c s
    | [], _, h => simp [gk2] at h
    | [_], [], h => simp [gk2] at h
    | [_], [_], h => simp [gk2] at h
    | [_], _ :: _ :: _ :: _, h => simp [gk2] at h
    | _ :: _ :: _, _, h => simp [gk2] at h
  · match vs, us, zs, ws, r, rz with
    | _, _, _, _, .nil, _ => exact .nil
    | _, _, _, _, .cons _ .nil, .nil => exact .nil
    | _, _, _, _, .cons _ .nil, .cons _ .nil => exact .nil
    | _, _, _, _, .cons r1 .nil, .cons r2 (.cons r3 .nil) => exact .cons r1 (.cons r3 (.cons r2 .nil))
    | _, _, _, _, .cons _ .nil, .cons _ (.cons _ (.cons _ _)) => exact .nil
    | _, _, _, _, .cons _ (.cons _ _), _ => exact .nil
theorem kg1 (a : V) (zs : List V) (h : zs.length = 1) : gk1 V [a] zs = a :: zs.reverse := by
  match zs, h with
  | [_], _ => rfl
theorem kg2 (a : V) (zs : List V) (h : zs.length = 2) : gk2 V [a] zs = a :: zs.reverse := by
  match zs, h with
  | [_, _], _ => rfl
/-- the fields of an error, by its values -/
def fs1 (f : Str) : List V → List (Str × V)
  | [v] => [(f, v)]
  | _ => []
def fs2 (f1 f2 : Str) : List V → List (Str × V)
  | [v1, v2] => [(f2, v2), (f1, v1)]
  | _ => []
/-- what the written part says of an error's class, all in one -/
structure Cls (K : PySem.W.Frag) (C : Addr) : Prop where
  oex : OexC K C
  err : ErrC K C
theorem init_BadNumber {f : Addr} {fd : FuncData} {C : Addr} (F : Fun K "__init__" "BadNumber.__init__" s_BadNumber_init f fd) (T : OexC K C) (no : PySem.W.findIn K (.ref C) "value" = some Option.none) : FnOk P w K mg base CX0 1 f fd ["self", "value"] (spInit C 1 (fs1 "value")) := by
  refine F.ok sc_BadNumber_init (fun vs H Q E h => ?_) (fun cdv A outer s H vs Q E hr h => ?_)
  · obtain ⟨a, ws, rfl, hl, _⟩ := h
    rw [List.length_cons, hl]; rfl
  · obtain ⟨a, ws, rfl, hl, ha, k⟩ := h
    match ws, hl with
    | [v], _ => exact ⟨_, pss_one (ps_ost (pv 0) (pv 1)), _, rfl, _, rfl, a, C, rfl, T, no, .inl ⟨ha, k⟩⟩
theorem bd_BadNumber {f : Addr} {fd : FuncData} (F : Fun K "__init__" "BadNumber.__init__" s_BadNumber_init f fd) : Binds K fd ["self", "value"] [] := F.binds (ps := ["self", "value"]) fun _ _ _ _ _ _ us hl => match us, hl with | [_, _], _ => rfl
theorem kb_BadNumber {f : Addr} {fd : FuncData} (F : Fun K "__init__" "BadNumber.__init__" s_BadNumber_init f fd) : KBinds K fd ["self", "value"] ["value"] (gk1 Value) (gk1 V) := by
  obtain ⟨oc, od, kV, doc, pm, an, cdv, ct, osl, e, lk, hcd⟩ := F.ex
  refine kb_rev1 fun a b s => ?_
  rw [e]; exact .of_eq rfl
theorem init_BadValue {f : Addr} {fd : FuncData} {C : Addr} (F : Fun K "__init__" "BadValue.__init__" s_BadValue_init f fd) (T : OexC K C) (no : PySem.W.findIn K (.ref C) "value" = some Option.none) : FnOk P w K mg base CX0 1 f fd ["self", "value"] (spInit C 1 (fs1 "value")) := by
  refine F.ok sc_BadValue_init (fun vs H Q E h => ?_) (fun cdv A outer s H vs Q E hr h => ?_)
  · obtain ⟨a, ws, rfl, hl, _⟩ := h
    rw [List.length_cons, hl]; rfl
  · obtain ⟨a, ws, rfl, hl, ha, k⟩ := h
    match ws, hl with
    | [v], _ => exact ⟨_, pss_one (ps_ost (pv 0) (pv 1)), _, rfl, _, rfl, a, C, rfl, T, no, .inl ⟨ha, k⟩⟩
theorem bd_BadValue {f : Addr} {fd : FuncData} (F : Fun K "__init__" "BadValue.__init__" s_BadValue_init f fd) : Binds K fd ["self", "value"] [] := F.binds (ps := ["self", "value"]) fun _ _ _ _ _ _ us hl => match us, hl with | [_, _], _ => rfl
theorem kb_BadValue {f : Addr} {fd : FuncData} (F : Fun K "__init__" "BadValue.__init__" s_BadValue_init f fd) : KBinds K fd ["self", "value"] ["value"] (gk1 Value) (gk1 V) := by
  obtain ⟨oc, od, kV, doc, pm, an, cdv, ct, osl, e, lk, hcd⟩ := F.ex
  refine kb_rev1 fun a b s => ?_
  rw [e]; exact .of_eq rfl
theorem init_BadLot {f : Addr} {fd : FuncData} {C : Addr} (F : Fun K "__init__" "BadLot.__init__" s_BadLot_init f fd) (T : OexC K C) (no : PySem.W.findIn K (.ref C) "part" = some Option.none) : FnOk P w K mg base CX0 1 f fd ["self", "part"] (spInit C 1 (fs1 "part")) := by
  refine F.ok sc_BadLot_init (fun vs H Q E h => ?_) (fun cdv A outer s H vs Q E hr h => ?_)
  · obtain ⟨a, ws, rfl, hl, _⟩ := h
    rw [List.length_cons, hl]; rfl
  · obtain ⟨a, ws, rfl, hl, ha, k⟩ := h
    match ws, hl with
    | [v], _ => exact ⟨_, pss_one (ps_ost (pv 0) (pv 1)), _, rfl, _, rfl, a, C, rfl, T, no, .inl ⟨ha, k⟩⟩
theorem bd_BadLot {f : Addr} {fd : FuncData} (F : Fun K "__init__" "BadLot.__init__" s_BadLot_init f fd) : Binds K fd ["self", "part"] [] := F.binds (ps := ["self", "part"]) fun _ _ _ _ _ _ us hl => match us, hl with | [_, _], _ => rfl
theorem kb_BadLot {f : Addr} {fd : FuncData} (F : Fun K "__init__" "BadLot.__init__" s_BadLot_init f fd) : KBinds K fd ["self", "part"] ["part"] (gk1 Value) (gk1 V) := by
  obtain ⟨oc, od, kV, doc, pm, an, cdv, ct, osl, e, lk, hcd⟩ := F.ex
  refine kb_rev1 fun a b s => ?_
  rw [e]; exact .of_eq rfl
theorem init_BadWheel {f : Addr} {fd : FuncData} {C : Addr} (F : Fun K "__init__" "BadWheel.__init__" s_BadWheel_init f fd) (T : OexC K C) (no : PySem.W.findIn K (.ref C) "part" = some Option.none) : FnOk P w K mg base CX0 1 f fd ["self", "part"] (spInit C 1 (fs1 "part")) := by
  refine F.ok sc_BadWheel_init (fun vs H Q E h => ?_) (fun cdv A outer s H vs Q E hr h => ?_)
  · obtain ⟨a, ws, rfl, hl, _⟩ := h
    rw [List.length_cons, hl]; rfl
  · obtain ⟨a, ws, rfl, hl, ha, k⟩ := h
    match ws, hl with
    | [v], _ => exact ⟨_, pss_one (ps_ost (pv 0) (pv 1)), _, rfl, _, rfl, a, C, rfl, T, no, .inl ⟨ha, k⟩⟩
theorem bd_BadWheel {f : Addr} {fd : FuncData} (F : Fun K "__init__" "BadWheel.__init__" s_BadWheel_init f fd) : Binds K fd ["self", "part"] [] := F.binds (ps := ["self", "part"]) fun _ _ _ _ _ _ us hl => match us, hl with | [_, _], _ => rfl
theorem kb_BadWheel {f : Addr} {fd : FuncData} (F : Fun K "__init__" "BadWheel.__init__" s_BadWheel_init f fd) : KBinds K fd ["self", "part"] ["part"] (gk1 Value) (gk1 V) := by
  obtain ⟨oc, od, kV, doc, pm, an, cdv, ct, osl, e, lk, hcd⟩ := F.ex
  refine kb_rev1 fun a b s => ?_
  rw [e]; exact .of_eq rfl
theorem init_BadMeter {f : Addr} {fd : FuncData} {C : Addr} (F : Fun K "__init__" "BadMeter.__init__" s_BadMeter_init f fd) (T : OexC K C) (no : PySem.W.findIn K (.ref C) "part" = some Option.none) : FnOk P w K mg base CX0 1 f fd ["self", "part"] (spInit C 1 (fs1 "part")) := by
  refine F.ok sc_BadMeter_init (fun vs H Q E h => ?_) (fun cdv A outer s H vs Q E hr h => ?_)
  · obtain ⟨a, ws, rfl, hl, _⟩ := h
    rw [List.length_cons, hl]; rfl
  · obtain ⟨a, ws, rfl, hl, ha, k⟩ := h
    match ws, hl with
    | [v], _ => exact ⟨_, pss_one (ps_ost (pv 0) (pv 1)), _, rfl, _, rfl, a, C, rfl, T, no, .inl ⟨ha, k⟩⟩
theorem bd_BadMeter {f : Addr} {fd : FuncData} (F : Fun K "__init__" "BadMeter.__init__" s_BadMeter_init f fd) : Binds K fd ["self", "part"] [] := F.binds (ps := ["self", "part"]) fun _ _ _ _ _ _ us hl => match us, hl with | [_, _], _ => rfl
theorem kb_BadMeter {f : Addr} {fd : FuncData} (F : Fun K "__init__" "BadMeter.__init__" s_BadMeter_init f fd) : KBinds K fd ["self", "part"] ["part"] (gk1 Value) (gk1 V) := by
  obtain ⟨oc, od, kV, doc, pm, an, cdv, ct, osl, e, lk, hcd⟩ := F.ex
  refine kb_rev1 fun a b s => ?_
  rw [e]; exact .of_eq rfl
theorem init_BadShelf {f : Addr} {fd : FuncData} {C : Addr} (F : Fun K "__init__" "BadShelf.__init__" s_BadShelf_init f fd) (T : OexC K C) (no : PySem.W.findIn K (.ref C) "part" = some Option.none) : FnOk P w K mg base CX0 1 f fd ["self", "part"] (spInit C 1 (fs1 "part")) := by
  refine F.ok sc_BadShelf_init (fun vs H Q E h => ?_) (fun cdv A outer s H vs Q E hr h => ?_)
  · obtain ⟨a, ws, rfl, hl, _⟩ := h
    rw [List.length_cons, hl]; rfl
  · obtain ⟨a, ws, rfl, hl, ha, k⟩ := h
    match ws, hl with
    | [v], _ => exact ⟨_, pss_one (ps_ost (pv 0) (pv 1)), _, rfl, _, rfl, a, C, rfl, T, no, .inl ⟨ha, k⟩⟩
theorem bd_BadShelf {f : Addr} {fd : FuncData} (F : Fun K "__init__" "BadShelf.__init__" s_BadShelf_init f fd) : Binds K fd ["self", "part"] [] := F.binds (ps := ["self", "part"]) fun _ _ _ _ _ _ us hl => match us, hl with | [_, _], _ => rfl
theorem kb_BadShelf {f : Addr} {fd : FuncData} (F : Fun K "__init__" "BadShelf.__init__" s_BadShelf_init f fd) : KBinds K fd ["self", "part"] ["part"] (gk1 Value) (gk1 V) := by
  obtain ⟨oc, od, kV, doc, pm, an, cdv, ct, osl, e, lk, hcd⟩ := F.ex
  refine kb_rev1 fun a b s => ?_
  rw [e]; exact .of_eq rfl
theorem init_BadFollower {f : Addr} {fd : FuncData} {C : Addr} (F : Fun K "__init__" "BadFollower.__init__" s_BadFollower_init f fd) (T : OexC K C) (no : PySem.W.findIn K (.ref C) "part" = some Option.none) : FnOk P w K mg base CX0 1 f fd ["self", "part"] (spInit C 1 (fs1 "part")) := by
  refine F.ok sc_BadFollower_init (fun vs H Q E h => ?_) (fun cdv A outer s H vs Q E hr h => ?_)
  · obtain ⟨a, ws, rfl, hl, _⟩ := h
    rw [List.length_cons, hl]; rfl
  · obtain ⟨a, ws, rfl, hl, ha, k⟩ := h
    match ws, hl with
    | [v], _ => exact ⟨_, pss_one (ps_ost (pv 0) (pv 1)), _, rfl, _, rfl, a, C, rfl, T, no, .inl ⟨ha, k⟩⟩
theorem bd_BadFollower {f : Addr} {fd : FuncData} (F : Fun K "__init__" "BadFollower.__init__" s_BadFollower_init f fd) : Binds K fd ["self", "part"] [] := F.binds (ps := ["self", "part"]) fun _ _ _ _ _ _ us hl => match us, hl with | [_, _], _ => rfl
theorem kb_BadFollower {f : Addr} {fd : FuncData} (F : Fun K "__init__" "BadFollower.__init__" s_BadFollower_init f fd) : KBinds K fd ["self", "part"] ["part"] (gk1 Value) (gk1 V) := by
  obtain ⟨oc, od, kV, doc, pm, an, cdv, ct, osl, e, lk, hcd⟩ := F.ex
  refine kb_rev1 fun a b s => ?_
  rw [e]; exact .of_eq rfl
theorem init_Unlike {f : Addr} {fd : FuncData} {C : Addr} (F : Fun K "__init__" "Unlike.__init__" s_Unlike_init f fd) (T : OexC K C) (no : PySem.W.findIn K (.ref C) "part" = some Option.none) : FnOk P w K mg base CX0 1 f fd ["self", "part"] (spInit C 1 (fs1 "part")) := by
  refine F.ok sc_Unlike_init (fun vs H Q E h => ?_) (fun cdv A outer s H vs Q E hr h => ?_)
  · obtain ⟨a, ws, rfl, hl, _⟩ := h
    rw [List.length_cons, hl]; rfl
  · obtain ⟨a, ws, rfl, hl, ha, k⟩ := h
    match ws, hl with
    | [v], _ => exact ⟨_, pss_one (ps_ost (pv 0) (pv 1)), _, rfl, _, rfl, a, C, rfl, T, no, .inl ⟨ha, k⟩⟩
theorem bd_Unlike {f : Addr} {fd : FuncData} (F : Fun K "__init__" "Unlike.__init__" s_Unlike_init f fd) : Binds K fd ["self", "part"] [] := F.binds (ps := ["self", "part"]) fun _ _ _ _ _ _ us hl => match us, hl with | [_, _], _ => rfl
theorem kb_Unlike {f : Addr} {fd : FuncData} (F : Fun K "__init__" "Unlike.__init__" s_Unlike_init f fd) : KBinds K fd ["self", "part"] ["part"] (gk1 Value) (gk1 V) := by
  obtain ⟨oc, od, kV, doc, pm, an, cdv, ct, osl, e, lk, hcd⟩ := F.ex
  refine kb_rev1 fun a b s => ?_
  rw [e]; exact .of_eq rfl
theorem init_BadMark {f : Addr} {fd : FuncData} {C : Addr} (F : Fun K "__init__" "BadMark.__init__" s_BadMark_init f fd) (T : OexC K C) (no : PySem.W.findIn K (.ref C) "at" = some Option.none) : FnOk P w K mg base CX0 1 f fd ["self", "at"] (spInit C 1 (fs1 "at")) := by
  refine F.ok sc_BadMark_init (fun vs H Q E h => ?_) (fun cdv A outer s H vs Q E hr h => ?_)
  · obtain ⟨a, ws, rfl, hl, _⟩ := h
    rw [List.length_cons, hl]; rfl
  · obtain ⟨a, ws, rfl, hl, ha, k⟩ := h
    match ws, hl with
    | [v], _ => exact ⟨_, pss_one (ps_ost (pv 0) (pv 1)), _, rfl, _, rfl, a, C, rfl, T, no, .inl ⟨ha, k⟩⟩
theorem bd_BadMark {f : Addr} {fd : FuncData} (F : Fun K "__init__" "BadMark.__init__" s_BadMark_init f fd) : Binds K fd ["self", "at"] [] := F.binds (ps := ["self", "at"]) fun _ _ _ _ _ _ us hl => match us, hl with | [_, _], _ => rfl
theorem kb_BadMark {f : Addr} {fd : FuncData} (F : Fun K "__init__" "BadMark.__init__" s_BadMark_init f fd) : KBinds K fd ["self", "at"] ["at"] (gk1 Value) (gk1 V) := by
  obtain ⟨oc, od, kV, doc, pm, an, cdv, ct, osl, e, lk, hcd⟩ := F.ex
  refine kb_rev1 fun a b s => ?_
  rw [e]; exact .of_eq rfl
theorem init_BadGear {f : Addr} {fd : FuncData} {C : Addr} (F : Fun K "__init__" "BadGear.__init__" s_BadGear_init f fd) (T : OexC K C) (no : PySem.W.findIn K (.ref C) "at" = some Option.none) : FnOk P w K mg base CX0 1 f fd ["self", "at"] (spInit C 1 (fs1 "at")) := by
  refine F.ok sc_BadGear_init (fun vs H Q E h => ?_) (fun cdv A outer s H vs Q E hr h => ?_)
  · obtain ⟨a, ws, rfl, hl, _⟩ := h
    rw [List.length_cons, hl]; rfl
  · obtain ⟨a, ws, rfl, hl, ha, k⟩ := h
    match ws, hl with
    | [v], _ => exact ⟨_, pss_one (ps_ost (pv 0) (pv 1)), _, rfl, _, rfl, a, C, rfl, T, no, .inl ⟨ha, k⟩⟩
theorem bd_BadGear {f : Addr} {fd : FuncData} (F : Fun K "__init__" "BadGear.__init__" s_BadGear_init f fd) : Binds K fd ["self", "at"] [] := F.binds (ps := ["self", "at"]) fun _ _ _ _ _ _ us hl => match us, hl with | [_, _], _ => rfl
theorem kb_BadGear {f : Addr} {fd : FuncData} (F : Fun K "__init__" "BadGear.__init__" s_BadGear_init f fd) : KBinds K fd ["self", "at"] ["at"] (gk1 Value) (gk1 V) := by
  obtain ⟨oc, od, kV, doc, pm, an, cdv, ct, osl, e, lk, hcd⟩ := F.ex
  refine kb_rev1 fun a b s => ?_
  rw [e]; exact .of_eq rfl
theorem init_BadLog {f : Addr} {fd : FuncData} {C : Addr} (F : Fun K "__init__" "BadLog.__init__" s_BadLog_init f fd) (T : OexC K C) (no : PySem.W.findIn K (.ref C) "at" = some Option.none) : FnOk P w K mg base CX0 1 f fd ["self", "at"] (spInit C 1 (fs1 "at")) := by
  refine F.ok sc_BadLog_init (fun vs H Q E h => ?_) (fun cdv A outer s H vs Q E hr h => ?_)
  · obtain ⟨a, ws, rfl, hl, _⟩ := h
    rw [List.length_cons, hl]; rfl
  · obtain ⟨a, ws, rfl, hl, ha, k⟩ := h
    match ws, hl with
    | [v], _ => exact ⟨_, pss_one (ps_ost (pv 0) (pv 1)), _, rfl, _, rfl, a, C, rfl, T, no, .inl ⟨ha, k⟩⟩
theorem bd_BadLog {f : Addr} {fd : FuncData} (F : Fun K "__init__" "BadLog.__init__" s_BadLog_init f fd) : Binds K fd ["self", "at"] [] := F.binds (ps := ["self", "at"]) fun _ _ _ _ _ _ us hl => match us, hl with | [_, _], _ => rfl
theorem kb_BadLog {f : Addr} {fd : FuncData} (F : Fun K "__init__" "BadLog.__init__" s_BadLog_init f fd) : KBinds K fd ["self", "at"] ["at"] (gk1 Value) (gk1 V) := by
  obtain ⟨oc, od, kV, doc, pm, an, cdv, ct, osl, e, lk, hcd⟩ := F.ex
  refine kb_rev1 fun a b s => ?_
  rw [e]; exact .of_eq rfl
theorem init_BadDeed {f : Addr} {fd : FuncData} {C : Addr} (F : Fun K "__init__" "BadDeed.__init__" s_BadDeed_init f fd) (T : OexC K C) (no : PySem.W.findIn K (.ref C) "at" = some Option.none) : FnOk P w K mg base CX0 1 f fd ["self", "at"] (spInit C 1 (fs1 "at")) := by
  refine F.ok sc_BadDeed_init (fun vs H Q E h => ?_) (fun cdv A outer s H vs Q E hr h => ?_)
  · obtain ⟨a, ws, rfl, hl, _⟩ := h
    rw [List.length_cons, hl]; rfl
  · obtain ⟨a, ws, rfl, hl, ha, k⟩ := h
    match ws, hl with
    | [v], _ => exact ⟨_, pss_one (ps_ost (pv 0) (pv 1)), _, rfl, _, rfl, a, C, rfl, T, no, .inl ⟨ha, k⟩⟩
theorem bd_BadDeed {f : Addr} {fd : FuncData} (F : Fun K "__init__" "BadDeed.__init__" s_BadDeed_init f fd) : Binds K fd ["self", "at"] [] := F.binds (ps := ["self", "at"]) fun _ _ _ _ _ _ us hl => match us, hl with | [_, _], _ => rfl
theorem kb_BadDeed {f : Addr} {fd : FuncData} (F : Fun K "__init__" "BadDeed.__init__" s_BadDeed_init f fd) : KBinds K fd ["self", "at"] ["at"] (gk1 Value) (gk1 V) := by
  obtain ⟨oc, od, kV, doc, pm, an, cdv, ct, osl, e, lk, hcd⟩ := F.ex
  refine kb_rev1 fun a b s => ?_
  rw [e]; exact .of_eq rfl
theorem init_NoPlace {f : Addr} {fd : FuncData} {C : Addr} (F : Fun K "__init__" "NoPlace.__init__" s_NoPlace_init f fd) (T : OexC K C) (no : PySem.W.findIn K (.ref C) "at" = some Option.none) : FnOk P w K mg base CX0 1 f fd ["self", "at"] (spInit C 1 (fs1 "at")) := by
  refine F.ok sc_NoPlace_init (fun vs H Q E h => ?_) (fun cdv A outer s H vs Q E hr h => ?_)
  · obtain ⟨a, ws, rfl, hl, _⟩ := h
    rw [List.length_cons, hl]; rfl
  · obtain ⟨a, ws, rfl, hl, ha, k⟩ := h
    match ws, hl with
    | [v], _ => exact ⟨_, pss_one (ps_ost (pv 0) (pv 1)), _, rfl, _, rfl, a, C, rfl, T, no, .inl ⟨ha, k⟩⟩
theorem bd_NoPlace {f : Addr} {fd : FuncData} (F : Fun K "__init__" "NoPlace.__init__" s_NoPlace_init f fd) : Binds K fd ["self", "at"] [] := F.binds (ps := ["self", "at"]) fun _ _ _ _ _ _ us hl => match us, hl with | [_, _], _ => rfl
theorem kb_NoPlace {f : Addr} {fd : FuncData} (F : Fun K "__init__" "NoPlace.__init__" s_NoPlace_init f fd) : KBinds K fd ["self", "at"] ["at"] (gk1 Value) (gk1 V) := by
  obtain ⟨oc, od, kV, doc, pm, an, cdv, ct, osl, e, lk, hcd⟩ := F.ex
  refine kb_rev1 fun a b s => ?_
  rw [e]; exact .of_eq rfl
theorem init_NoName {f : Addr} {fd : FuncData} {C : Addr} (F : Fun K "__init__" "NoName.__init__" s_NoName_init f fd) (T : OexC K C) (no : PySem.W.findIn K (.ref C) "name" = some Option.none) : FnOk P w K mg base CX0 1 f fd ["self", "name"] (spInit C 1 (fs1 "name")) := by
  refine F.ok sc_NoName_init (fun vs H Q E h => ?_) (fun cdv A outer s H vs Q E hr h => ?_)
  · obtain ⟨a, ws, rfl, hl, _⟩ := h
    rw [List.length_cons, hl]; rfl
  · obtain ⟨a, ws, rfl, hl, ha, k⟩ := h
    match ws, hl with
    | [v], _ => exact ⟨_, pss_one (ps_ost (pv 0) (pv 1)), _, rfl, _, rfl, a, C, rfl, T, no, .inl ⟨ha, k⟩⟩
theorem bd_NoName {f : Addr} {fd : FuncData} (F : Fun K "__init__" "NoName.__init__" s_NoName_init f fd) : Binds K fd ["self", "name"] [] := F.binds (ps := ["self", "name"]) fun _ _ _ _ _ _ us hl => match us, hl with | [_, _], _ => rfl
theorem kb_NoName {f : Addr} {fd : FuncData} (F : Fun K "__init__" "NoName.__init__" s_NoName_init f fd) : KBinds K fd ["self", "name"] ["name"] (gk1 Value) (gk1 V) := by
  obtain ⟨oc, od, kV, doc, pm, an, cdv, ct, osl, e, lk, hcd⟩ := F.ex
  refine kb_rev1 fun a b s => ?_
  rw [e]; exact .of_eq rfl
theorem init_BadLine {f : Addr} {fd : FuncData} {C : Addr} (F : Fun K "__init__" "BadLine.__init__" s_BadLine_init f fd) (T : OexC K C) (no : PySem.W.findIn K (.ref C) "word" = some Option.none) : FnOk P w K mg base CX0 1 f fd ["self", "word"] (spInit C 1 (fs1 "word")) := by
  refine F.ok sc_BadLine_init (fun vs H Q E h => ?_) (fun cdv A outer s H vs Q E hr h => ?_)
  · obtain ⟨a, ws, rfl, hl, _⟩ := h
    rw [List.length_cons, hl]; rfl
  · obtain ⟨a, ws, rfl, hl, ha, k⟩ := h
    match ws, hl with
    | [v], _ => exact ⟨_, pss_one (ps_ost (pv 0) (pv 1)), _, rfl, _, rfl, a, C, rfl, T, no, .inl ⟨ha, k⟩⟩
theorem bd_BadLine {f : Addr} {fd : FuncData} (F : Fun K "__init__" "BadLine.__init__" s_BadLine_init f fd) : Binds K fd ["self", "word"] [] := F.binds (ps := ["self", "word"]) fun _ _ _ _ _ _ us hl => match us, hl with | [_, _], _ => rfl
theorem kb_BadLine {f : Addr} {fd : FuncData} (F : Fun K "__init__" "BadLine.__init__" s_BadLine_init f fd) : KBinds K fd ["self", "word"] ["word"] (gk1 Value) (gk1 V) := by
  obtain ⟨oc, od, kV, doc, pm, an, cdv, ct, osl, e, lk, hcd⟩ := F.ex
  refine kb_rev1 fun a b s => ?_
  rw [e]; exact .of_eq rfl
theorem init_BadText {f : Addr} {fd : FuncData} {C : Addr} (F : Fun K "__init__" "BadText.__init__" s_BadText_init f fd) (T : OexC K C) (no1 : PySem.W.findIn K (.ref C) "line" = some Option.none) (no2 : PySem.W.findIn K (.ref C) "word" = some Option.none) :
    FnOk P w K mg base CX0 1 f fd ["self", "line", "word"] (spInit C 2 (fs2 "line" "word")) := by
  refine F.ok sc_BadText_init (fun vs H Q E h => ?_) (fun cdv A outer s H vs Q E hr h => ?_)
  · obtain ⟨a, ws, rfl, hl, _⟩ := h
    rw [List.length_cons, hl]; rfl
  · obtain ⟨a, ws, rfl, hl, ha, k⟩ := h
    match ws, hl with
    | [v1, v2], _ =>
      refine ⟨_, pss_cons (ps_ost (pv 0) (pv 1)) (pss_one (ps_ost (pv 0) (pv 2))), _, rfl, _, rfl, a, C, rfl, T, no1, .inl ⟨ha, fun dx h1 h2 => ?_⟩⟩
      refine ⟨_, rfl, _, rfl, a, C, rfl, T, no2, .inr ⟨dx, _, upd_same, by rw [upd_ne h2, upd_same], (by show 1 ≤ 900; decide), ?_⟩⟩
      have q := k dx h1 h2
      rw [two_up h2]
      exact q
theorem bd_BadText {f : Addr} {fd : FuncData} (F : Fun K "__init__" "BadText.__init__" s_BadText_init f fd) : Binds K fd ["self", "line", "word"] [] := F.binds (ps := ["self", "line", "word"]) fun _ _ _ _ _ _ us hl => match us, hl with | [_, _, _], _ => rfl
theorem kb_BadText {f : Addr} {fd : FuncData} (F : Fun K "__init__" "BadText.__init__" s_BadText_init f fd) : KBinds K fd ["self", "line", "word"] ["word", "line"] (gk2 Value) (gk2 V) := by
  obtain ⟨oc, od, kV, doc, pm, an, cdv, ct, osl, e, lk, hcd⟩ := F.ex
  refine kb_rev2 fun a b c s => ?_
  rw [e]; exact .of_eq rfl
theorem init_TooMany {f : Addr} {fd : FuncData} {C : Addr} (F : Fun K "__init__" "TooMany.__init__" s_TooMany_init f fd) (T : OexC K C) (no1 : PySem.W.findIn K (.ref C) "what" = some Option.none) (no2 : PySem.W.findIn K (.ref C) "most" = some Option.none) :
    FnOk P w K mg base CX0 1 f fd ["self", "what", "most"] (spInit C 2 (fs2 "what" "most")) := by
  refine F.ok sc_TooMany_init (fun vs H Q E h => ?_) (fun cdv A outer s H vs Q E hr h => ?_)
  · obtain ⟨a, ws, rfl, hl, _⟩ := h
    rw [List.length_cons, hl]; rfl
  · obtain ⟨a, ws, rfl, hl, ha, k⟩ := h
    match ws, hl with
    | [v1, v2], _ =>
      refine ⟨_, pss_cons (ps_ost (pv 0) (pv 1)) (pss_one (ps_ost (pv 0) (pv 2))), _, rfl, _, rfl, a, C, rfl, T, no1, .inl ⟨ha, fun dx h1 h2 => ?_⟩⟩
      refine ⟨_, rfl, _, rfl, a, C, rfl, T, no2, .inr ⟨dx, _, upd_same, by rw [upd_ne h2, upd_same], (by show 1 ≤ 900; decide), ?_⟩⟩
      have q := k dx h1 h2
      rw [two_up h2]
      exact q
theorem bd_TooMany {f : Addr} {fd : FuncData} (F : Fun K "__init__" "TooMany.__init__" s_TooMany_init f fd) : Binds K fd ["self", "what", "most"] [] := F.binds (ps := ["self", "what", "most"]) fun _ _ _ _ _ _ us hl => match us, hl with | [_, _, _], _ => rfl
theorem kb_TooMany {f : Addr} {fd : FuncData} (F : Fun K "__init__" "TooMany.__init__" s_TooMany_init f fd) : KBinds K fd ["self", "what", "most"] ["most", "what"] (gk2 Value) (gk2 V) := by
  obtain ⟨oc, od, kV, doc, pm, an, cdv, ct, osl, e, lk, hcd⟩ := F.ex
  refine kb_rev2 fun a b c s => ?_
  rw [e]; exact .of_eq rfl


end
/-- what the top has written -/
structure Txt (K : PySem.W.Frag) (mg : Str → Option Value) where
  a_pen : Addr
  fd_pen : FuncData
  F_pen : Fun K "_law_pen" "_law_pen" s_pen a_pen fd_pen
  m_pen : mg "_law_pen" = some (.ref a_pen)
  a_draw : Addr
  fd_draw : FuncData
  F_draw : Fun K "_law_draw" "_law_draw" s_draw a_draw fd_draw
  m_draw : mg "_law_draw" = some (.ref a_draw)
  a_pick : Addr
  fd_pick : FuncData
  F_pick : Fun K "_law_pick" "_law_pick" s_pick a_pick fd_pick
  m_pick : mg "_law_pick" = some (.ref a_pick)
  a_thing : Addr
  fd_thing : FuncData
  F_thing : Fun K "_law_thing" "_law_thing" s_thing a_thing fd_thing
  m_thing : mg "_law_thing" = some (.ref a_thing)
  a_classes : Addr
  fd_classes : FuncData
  F_classes : Fun K "_law_classes" "_law_classes" s_classes a_classes fd_classes
  m_classes : mg "_law_classes" = some (.ref a_classes)
  a_parted : Addr
  fd_parted : FuncData
  F_parted : Fun K "_law_parted" "_law_parted" s_parted a_parted fd_parted
  m_parted : mg "_law_parted" = some (.ref a_parted)
  a_placed : Addr
  fd_placed : FuncData
  F_placed : Fun K "_law_placed" "_law_placed" s_placed a_placed fd_placed
  m_placed : mg "_law_placed" = some (.ref a_placed)
  a_two_right : Addr
  fd_two_right : FuncData
  F_two_right : Fun K "_law_two_right" "_law_two_right" s_two_right a_two_right fd_two_right
  m_two_right : mg "_law_two_right" = some (.ref a_two_right)
  a_law : Addr
  fd_law : FuncData
  F_law : Fun K "law" "law" s_law a_law fd_law
  m_law : mg "law" = some (.ref a_law)
  a_BadNumber_init : Addr
  fd_BadNumber_init : FuncData
  F_BadNumber_init : Fun K "__init__" "BadNumber.__init__" s_BadNumber_init a_BadNumber_init fd_BadNumber_init
  a_BadLot_init : Addr
  fd_BadLot_init : FuncData
  F_BadLot_init : Fun K "__init__" "BadLot.__init__" s_BadLot_init a_BadLot_init fd_BadLot_init
  a_BadWheel_init : Addr
  fd_BadWheel_init : FuncData
  F_BadWheel_init : Fun K "__init__" "BadWheel.__init__" s_BadWheel_init a_BadWheel_init fd_BadWheel_init
  a_BadMeter_init : Addr
  fd_BadMeter_init : FuncData
  F_BadMeter_init : Fun K "__init__" "BadMeter.__init__" s_BadMeter_init a_BadMeter_init fd_BadMeter_init
  a_BadMark_init : Addr
  fd_BadMark_init : FuncData
  F_BadMark_init : Fun K "__init__" "BadMark.__init__" s_BadMark_init a_BadMark_init fd_BadMark_init
  a_BadValue_init : Addr
  fd_BadValue_init : FuncData
  F_BadValue_init : Fun K "__init__" "BadValue.__init__" s_BadValue_init a_BadValue_init fd_BadValue_init
  a_BadGear_init : Addr
  fd_BadGear_init : FuncData
  F_BadGear_init : Fun K "__init__" "BadGear.__init__" s_BadGear_init a_BadGear_init fd_BadGear_init
  a_BadShelf_init : Addr
  fd_BadShelf_init : FuncData
  F_BadShelf_init : Fun K "__init__" "BadShelf.__init__" s_BadShelf_init a_BadShelf_init fd_BadShelf_init
  a_BadLog_init : Addr
  fd_BadLog_init : FuncData
  F_BadLog_init : Fun K "__init__" "BadLog.__init__" s_BadLog_init a_BadLog_init fd_BadLog_init
  a_BadFollower_init : Addr
  fd_BadFollower_init : FuncData
  F_BadFollower_init : Fun K "__init__" "BadFollower.__init__" s_BadFollower_init a_BadFollower_init fd_BadFollower_init
  a_BadDeed_init : Addr
  fd_BadDeed_init : FuncData
  F_BadDeed_init : Fun K "__init__" "BadDeed.__init__" s_BadDeed_init a_BadDeed_init fd_BadDeed_init
  a_BadText_init : Addr
  fd_BadText_init : FuncData
  F_BadText_init : Fun K "__init__" "BadText.__init__" s_BadText_init a_BadText_init fd_BadText_init
  a_BadLine_init : Addr
  fd_BadLine_init : FuncData
  F_BadLine_init : Fun K "__init__" "BadLine.__init__" s_BadLine_init a_BadLine_init fd_BadLine_init
  a_NoName_init : Addr
  fd_NoName_init : FuncData
  F_NoName_init : Fun K "__init__" "NoName.__init__" s_NoName_init a_NoName_init fd_NoName_init
  a_NoPlace_init : Addr
  fd_NoPlace_init : FuncData
  F_NoPlace_init : Fun K "__init__" "NoPlace.__init__" s_NoPlace_init a_NoPlace_init fd_NoPlace_init
  a_Unlike_init : Addr
  fd_Unlike_init : FuncData
  F_Unlike_init : Fun K "__init__" "Unlike.__init__" s_Unlike_init a_Unlike_init fd_Unlike_init
  a_TooMany_init : Addr
  fd_TooMany_init : FuncData
  F_TooMany_init : Fun K "__init__" "TooMany.__init__" s_TooMany_init a_TooMany_init fd_TooMany_init
  n_LookupError : mg "LookupError" = none
  n_ValueError : mg "ValueError" = none
  n_abs : mg "abs" = none
  n_enumerate : mg "enumerate" = none
  n_int : mg "int" = none
  n_isinstance : mg "isinstance" = none
  n_len : mg "len" = none
  n_list : mg "list" = none
  n_range : mg "range" = none
  n_repr : mg "repr" = none
  e_BadNumber : ErrT K mg "BadNumber" 1 ["value"] (fs1 "value")
  e_BadValue : ErrT K mg "BadValue" 1 ["value"] (fs1 "value")
  e_BadLot : ErrT K mg "BadLot" 1 ["part"] (fs1 "part")
  e_BadWheel : ErrT K mg "BadWheel" 1 ["part"] (fs1 "part")
  e_BadMeter : ErrT K mg "BadMeter" 1 ["part"] (fs1 "part")
  e_BadShelf : ErrT K mg "BadShelf" 1 ["part"] (fs1 "part")
  e_BadFollower : ErrT K mg "BadFollower" 1 ["part"] (fs1 "part")
  e_Unlike : ErrT K mg "Unlike" 1 ["part"] (fs1 "part")
  e_BadMark : ErrT K mg "BadMark" 1 ["at"] (fs1 "at")
  e_BadGear : ErrT K mg "BadGear" 1 ["at"] (fs1 "at")
  e_BadLog : ErrT K mg "BadLog" 1 ["at"] (fs1 "at")
  e_BadDeed : ErrT K mg "BadDeed" 1 ["at"] (fs1 "at")
  e_NoPlace : ErrT K mg "NoPlace" 1 ["at"] (fs1 "at")
  e_NoName : ErrT K mg "NoName" 1 ["name"] (fs1 "name")
  e_BadLine : ErrT K mg "BadLine" 1 ["word"] (fs1 "word")
  e_BadText : ErrT K mg "BadText" 2 ["line", "word"] (fs2 "line" "word")
  e_TooMany : ErrT K mg "TooMany" 2 ["what", "most"] (fs2 "what" "most")
  e_NoMember : ErrN K mg "NoMember"
  e_Unfit : ErrN K mg "Unfit"
  e_Nothing : ErrN K mg "Nothing"
  e_ReachError : ErrN K mg "ReachError"
  kit : ∀ i j : Nat, i < 20 → j < 21 → PySem.W.kitOne K (.ref ([e_BadNumber.C, e_BadValue.C, e_BadLot.C, e_BadWheel.C, e_BadMeter.C, e_BadShelf.C, e_BadFollower.C, e_Unlike.C, e_BadMark.C, e_BadGear.C, e_BadLog.C, e_BadDeed.C, e_NoPlace.C, e_NoName.C, e_BadLine.C, e_BadText.C, e_TooMany.C, e_NoMember.C, e_Unfit.C, e_Nothing.C].getD j e_ReachError.C)) (.ref ([e_BadNumber.C, e_BadValue.C, e_BadLot.C, e_BadWheel.C, e_BadMeter.C, e_BadShelf.C, e_BadFollower.C, e_Unlike.C, e_BadMark.C, e_BadGear.C, e_BadLog.C, e_BadDeed.C, e_NoPlace.C, e_NoName.C, e_BadLine.C, e_BadText.C, e_TooMany.C, e_NoMember.C, e_Unfit.C, e_Nothing.C].getD i e_ReachError.C)) = some (decide (i = j))
  kup : ∀ j : Nat, j < 21 → PySem.W.kitOne K (.ref ([e_BadNumber.C, e_BadValue.C, e_BadLot.C, e_BadWheel.C, e_BadMeter.C, e_BadShelf.C, e_BadFollower.C, e_Unlike.C, e_BadMark.C, e_BadGear.C, e_BadLog.C, e_BadDeed.C, e_NoPlace.C, e_NoName.C, e_BadLine.C, e_BadText.C, e_TooMany.C, e_NoMember.C, e_Unfit.C, e_Nothing.C].getD j e_ReachError.C)) (.ref e_ReachError.C) = some true ∧ PySem.W.kitOne K (.ref ([e_BadNumber.C, e_BadValue.C, e_BadLot.C, e_BadWheel.C, e_BadMeter.C, e_BadShelf.C, e_BadFollower.C, e_Unlike.C, e_BadMark.C, e_BadGear.C, e_BadLog.C, e_BadDeed.C, e_NoPlace.C, e_NoName.C, e_BadLine.C, e_BadText.C, e_TooMany.C, e_NoMember.C, e_Unfit.C, e_Nothing.C].getD j e_ReachError.C)) (.type "ValueError") = some true ∧ PySem.W.kitOne K (.ref ([e_BadNumber.C, e_BadValue.C, e_BadLot.C, e_BadWheel.C, e_BadMeter.C, e_BadShelf.C, e_BadFollower.C, e_Unlike.C, e_BadMark.C, e_BadGear.C, e_BadLog.C, e_BadDeed.C, e_NoPlace.C, e_NoName.C, e_BadLine.C, e_BadText.C, e_TooMany.C, e_NoMember.C, e_Unfit.C, e_Nothing.C].getD j e_ReachError.C)) (.type "LookupError") = some false
section
variable {P : Program} {w : World} {K : PySem.W.Frag} {mg : Str → Option Value} {base : Heap}
theorem b_pen (T : Txt K mg) : Binds K T.fd_pen ["_law_script"] [] := T.F_pen.binds (ps := ["_law_script"]) fun _ _ _ _ _ _ us hl => match us, hl with | [_], _ => rfl
theorem b_draw (T : Txt K mg) : Binds K T.fd_draw ["_law_pen_here", "_law_many"] [] := T.F_draw.binds (ps := ["_law_pen_here", "_law_many"]) fun _ _ _ _ _ _ us hl => match us, hl with | [_, _], _ => rfl
theorem b_pick (T : Txt K mg) : Binds K T.fd_pick ["_law_pen_here", "_law_some"] [] := T.F_pick.binds (ps := ["_law_pen_here", "_law_some"]) fun _ _ _ _ _ _ us hl => match us, hl with | [_, _], _ => rfl
theorem b_thing (T : Txt K mg) : Binds K T.fd_thing ["_law_pen_here"] [] := T.F_thing.binds (ps := ["_law_pen_here"]) fun _ _ _ _ _ _ us hl => match us, hl with | [_], _ => rfl
theorem b_classes (T : Txt K mg) : Binds K T.fd_classes ["_law_error"] [] := T.F_classes.binds (ps := ["_law_error"]) fun _ _ _ _ _ _ us hl => match us, hl with | [_], _ => rfl
theorem b_parted (T : Txt K mg) : Binds K T.fd_parted ["_law_one"] [] := T.F_parted.binds (ps := ["_law_one"]) fun _ _ _ _ _ _ us hl => match us, hl with | [_], _ => rfl
theorem b_placed (T : Txt K mg) : Binds K T.fd_placed ["_law_one"] [] := T.F_placed.binds (ps := ["_law_one"]) fun _ _ _ _ _ _ us hl => match us, hl with | [_], _ => rfl
theorem b_two_right (T : Txt K mg) : Binds K T.fd_two_right ["_law_one", "_law_two"] [] := T.F_two_right.binds (ps := ["_law_one", "_law_two"]) fun _ _ _ _ _ _ us hl => match us, hl with | [_, _], _ => rfl
theorem b_law (T : Txt K mg) : Binds K T.fd_law ["_law_script"] [] := T.F_law.binds (ps := ["_law_script"]) fun _ _ _ _ _ _ us hl => match us, hl with | [_], _ => rfl
theorem b_BadNumber_init (T : Txt K mg) : Binds K T.fd_BadNumber_init ["self", "value"] [] := T.F_BadNumber_init.binds (ps := ["self", "value"]) fun _ _ _ _ _ _ us hl => match us, hl with | [_, _], _ => rfl
theorem b_BadLot_init (T : Txt K mg) : Binds K T.fd_BadLot_init ["self", "part"] [] := T.F_BadLot_init.binds (ps := ["self", "part"]) fun _ _ _ _ _ _ us hl => match us, hl with | [_, _], _ => rfl
theorem b_BadWheel_init (T : Txt K mg) : Binds K T.fd_BadWheel_init ["self", "part"] [] := T.F_BadWheel_init.binds (ps := ["self", "part"]) fun _ _ _ _ _ _ us hl => match us, hl with | [_, _], _ => rfl
theorem b_BadMeter_init (T : Txt K mg) : Binds K T.fd_BadMeter_init ["self", "part"] [] := T.F_BadMeter_init.binds (ps := ["self", "part"]) fun _ _ _ _ _ _ us hl => match us, hl with | [_, _], _ => rfl
theorem b_BadMark_init (T : Txt K mg) : Binds K T.fd_BadMark_init ["self", "at"] [] := T.F_BadMark_init.binds (ps := ["self", "at"]) fun _ _ _ _ _ _ us hl => match us, hl with | [_, _], _ => rfl
theorem b_BadValue_init (T : Txt K mg) : Binds K T.fd_BadValue_init ["self", "value"] [] := T.F_BadValue_init.binds (ps := ["self", "value"]) fun _ _ _ _ _ _ us hl => match us, hl with | [_, _], _ => rfl
theorem b_BadGear_init (T : Txt K mg) : Binds K T.fd_BadGear_init ["self", "at"] [] := T.F_BadGear_init.binds (ps := ["self", "at"]) fun _ _ _ _ _ _ us hl => match us, hl with | [_, _], _ => rfl
theorem b_BadShelf_init (T : Txt K mg) : Binds K T.fd_BadShelf_init ["self", "part"] [] := T.F_BadShelf_init.binds (ps := ["self", "part"]) fun _ _ _ _ _ _ us hl => match us, hl with | [_, _], _ => rfl
theorem b_BadLog_init (T : Txt K mg) : Binds K T.fd_BadLog_init ["self", "at"] [] := T.F_BadLog_init.binds (ps := ["self", "at"]) fun _ _ _ _ _ _ us hl => match us, hl with | [_, _], _ => rfl
theorem b_BadFollower_init (T : Txt K mg) : Binds K T.fd_BadFollower_init ["self", "part"] [] := T.F_BadFollower_init.binds (ps := ["self", "part"]) fun _ _ _ _ _ _ us hl => match us, hl with | [_, _], _ => rfl
theorem b_BadDeed_init (T : Txt K mg) : Binds K T.fd_BadDeed_init ["self", "at"] [] := T.F_BadDeed_init.binds (ps := ["self", "at"]) fun _ _ _ _ _ _ us hl => match us, hl with | [_, _], _ => rfl
theorem b_BadText_init (T : Txt K mg) : Binds K T.fd_BadText_init ["self", "line", "word"] [] := T.F_BadText_init.binds (ps := ["self", "line", "word"]) fun _ _ _ _ _ _ us hl => match us, hl with | [_, _, _], _ => rfl
theorem b_BadLine_init (T : Txt K mg) : Binds K T.fd_BadLine_init ["self", "word"] [] := T.F_BadLine_init.binds (ps := ["self", "word"]) fun _ _ _ _ _ _ us hl => match us, hl with | [_, _], _ => rfl
theorem b_NoName_init (T : Txt K mg) : Binds K T.fd_NoName_init ["self", "name"] [] := T.F_NoName_init.binds (ps := ["self", "name"]) fun _ _ _ _ _ _ us hl => match us, hl with | [_, _], _ => rfl
theorem b_NoPlace_init (T : Txt K mg) : Binds K T.fd_NoPlace_init ["self", "at"] [] := T.F_NoPlace_init.binds (ps := ["self", "at"]) fun _ _ _ _ _ _ us hl => match us, hl with | [_, _], _ => rfl
theorem b_Unlike_init (T : Txt K mg) : Binds K T.fd_Unlike_init ["self", "part"] [] := T.F_Unlike_init.binds (ps := ["self", "part"]) fun _ _ _ _ _ _ us hl => match us, hl with | [_, _], _ => rfl
theorem b_TooMany_init (T : Txt K mg) : Binds K T.fd_TooMany_init ["self", "what", "most"] [] := T.F_TooMany_init.binds (ps := ["self", "what", "most"]) fun _ _ _ _ _ _ us hl => match us, hl with | [_, _, _], _ => rfl

--CUT
/-! ### the draws -/
def spPen (K : PySem.W.Frag) : Sp := fun vs H Q _ => ∃ (a : Addr) (ns : List Int), vs = [.ref a] ∧ SqL K H a (ns.map V.int) ∧ ns.length ≤ 63 ∧ ∀ (p : Addr) (H' : Hp), Same H H' → Pen H' p 0 → Q (.ref p) H'
theorem ok_pen (T : Txt K mg) : FnOk P w K mg base CX0 1 T.a_pen T.fd_pen ["_law_script"] (spPen K) := by
  refine T.F_pen.ok sc_pen (fun vs H Q E h => ?_) (fun cdv A outer s H vs Q E hr h => ?_)
  · obtain ⟨a, ns, rfl, _⟩ := h; rfl
  · obtain ⟨a, ns, rfl, hS, hl, k⟩ := h
    refine ⟨_, pss_one (ps_ret (pe_lst (pa_cons (pe_callTy call_list_of (by rfl) T.n_list (by decide +kernel) (pa_cons (pe_slice sl_list (pv 0) (po_none) (po_some (pe_int))) (pa_nil))) (pa_cons (pe_int) (pa_cons (pe_int) (pa_nil)))))), ?_⟩
    obtain ⟨ms, em, lm⟩ := cut_ints ns none (some 63)
    refine ⟨_, rfl, _, rfl, a, _, rfl, hS, fun q hq => ?_⟩
    refine ⟨q, _, rfl, .inl (SqL.of upd_same), fun l hl => ?_⟩
    refine ⟨(by show 3 ≤ sizeLine; decide), fun p hp => k p _ ?_ ?_⟩
    · exact (same_new hq).trans ((same_new hl).trans (same_new hp))
    · refine ⟨l, ms, 0, 0, upd_same, ?_, by omega, by omega, by omega, by omega⟩
      rw [upd_ne (ne_of_none upd_same hp), upd_same, em]
def spDraw : Sp := fun vs H Q _ => ∃ (p : Addr) (m : Int) (n : Nat), vs = [.ref p, .int m] ∧ 0 < m ∧ m < 1073741824 ∧ Pen H p n ∧ n < 100000 ∧ ∀ (r : Int) (H' : Hp), 0 ≤ r → r < m → Pen H' p (n + 1) → Fr p H H' → Q (.int r) H'
theorem ok_draw (T : Txt K mg) : FnOk P w K mg base CX0 1 T.a_draw T.fd_draw ["_law_pen_here", "_law_many"] spDraw := by
  refine T.F_draw.ok sc_draw (fun vs H Q E h => ?_) (fun cdv A outer s H vs Q E hr h => ?_)
  · obtain ⟨p, m, n, rfl, _⟩ := h; rfl
  · obtain ⟨p, m, n, rfl, hm, hm2, ⟨c, ns, i, g, hp, hc, i0, i1, g0, hl⟩, hn, k⟩ := h
    have cp : c ≠ p := pen_ne hp hc
    have mb : m.natAbs < 2 ^ 30 := by omega
    refine ⟨_, pss_cons (ps_if (pt_cmpR op_gt (pe_ix ix_list (pv 0) (pe_int) (fun _ _ => rfl)) (pe_int) (nomark _)) (pss_cons (ps_set (i := 2) sc_draw.nd rfl (Or.inl rfl) (pe_op op_modN (pe_callTy call_int1 (by rfl) T.n_int (by decide +kernel) (pa_cons (pe_ix ix_list (pv 0) (pe_int) (fun _ _ => rfl)) (pa_nil))) (pv 1)))
      (pss_cons (ps_asg (pe_op op_fdivW (pe_callTy call_int1 (by rfl) T.n_int (by decide +kernel) (pa_cons (pe_ix ix_list (pv 0) (pe_int) (fun _ _ => rfl)) (pa_nil))) (pv 1)) (pg_sub (pv 0) (pe_int) set_list))
      (pss_one (ps_ret (pv 2))))) (pss_nil))
      (pss_cons (ps_set (i := 3) sc_draw.nd rfl (Or.inl rfl) (pe_ix ix_list (pv 0) (pe_int) (fun _ _ => rfl)))
      (pss_cons (ps_asg (pe_op op_add (pv 3) (pe_int)) (pg_sub (pv 0) (pe_int) set_list))
      (pss_cons (ps_set (i := 4) sc_draw.nd rfl (Or.inl rfl) (pe_op op_add (pe_op op_mul (pe_int) (pv 3)) (pe_int)))
      (C8.pss_cut (ps_if (pt_cmpR (op_neD hr.units) (pe_ix ix_list (pv 0) (pe_int) (fun _ _ => rfl)) (pe_lst (pa_nil)) (nomark _)) (pss_one (ps_set (i := 4) sc_draw.nd rfl (Or.inl rfl) (pe_ix ix_list (pe_ix ix_list (pv 0) (pe_int) (fun _ _ => rfl)) (pe_op op_modN (pe_callTy call_int1 (by rfl) T.n_int (by decide +kernel) (pa_cons (pv 3) (pa_nil))) (pe_callB call_len_seq (by rfl) T.n_len (by decide +kernel) (pa_cons (pe_ix ix_list (pv 0) (pe_int) (fun _ _ => rfl)) (pa_nil)))) (fun _ _ => rfl)))) (pss_nil))
      (C8.pss_cut (ps_if (PW.pt (pw_and (pt_cmpR op_lt (pv 3) (pe_callB call_len_seq (by rfl) T.n_len (by decide +kernel) (pa_cons (pe_ix ix_list (pv 0) (pe_int) (fun _ _ => rfl)) (pa_nil))) (nomark _)) (pw_and1 (pt_cmpR op_ge (pe_callB call_abs (by rfl) T.n_abs (by decide +kernel) (pa_cons (pv 4) (pa_nil))) (pe_op op_pow (pe_int) (pe_int)) (nomark _))))) (pss_cons (ps_set (i := 5) sc_draw.nd rfl (Or.inl rfl) (pe_op op_add (pe_op op_mul (pe_int) (pe_op op_sub (pe_callB call_abs (by rfl) T.n_abs (by decide +kernel) (pa_cons (pv 4) (pa_nil))) (pe_op op_pow (pe_int) (pe_int)))) (pe_callTy call_int1 (by rfl) T.n_int (by decide +kernel) (pa_cons (pe_cmpR op_lt (pv 4) (pe_int) (nomark _)) (pa_nil)))))
      (pss_cons (ps_asg (pe_op op_fdivW (pe_callTy call_int1 (by rfl) T.n_int (by decide +kernel) (pa_cons (pv 5) (pa_nil))) (pv 1)) (pg_sub (pv 0) (pe_int) set_list))
      (pss_one (ps_ret (pe_op op_modN (pe_callTy call_int1 (by rfl) T.n_int (by decide +kernel) (pa_cons (pv 5) (pa_nil))) (pv 1)))))) (pss_nil))
      (pss_cons (ps_set (i := 6) sc_draw.nd rfl (Or.inl rfl) (pe_op op_modN (pe_callTy call_int1 (by rfl) T.n_int (by decide +kernel) (pa_cons (pe_op op_pow (pe_op op_add (pe_op op_add (pe_op op_modN (pe_callTy call_int1 (by rfl) T.n_int (by decide +kernel) (pa_cons (pv 4) (pa_nil))) (pe_int)) (pe_op op_mul (pe_int) (pv 3))) (pe_int)) (pe_int)) (pa_nil))) (pe_int)))
      (pss_cons (ps_set (i := 6) sc_draw.nd rfl (Or.inl rfl) (pe_op op_modN (pe_callTy call_int1 (by rfl) T.n_int (by decide +kernel) (pa_cons (pe_op op_pow (pe_op op_add (pe_op op_add (pe_op op_mul (pv 6) (pe_op op_add (pe_op op_mul (pe_int) (pv 3)) (pe_int))) (pe_op op_mul (pe_op op_mul (pe_int) (pv 3)) (pv 3))) (pe_int)) (pe_int)) (pa_nil))) (pe_int)))
      (pss_one (ps_ret (pe_op op_modN (pe_callTy call_int1 (by rfl) T.n_int (by decide +kernel) (pa_cons (pe_op op_fdivW (pv 6) (pe_int)) (pa_nil))) (pv 1))))))))))), ?_⟩
    refine ⟨_, rfl, p, _, _, _, rfl, rfl, SqL.of hp, rfl, _, _, rfl, rfl, _, rfl, ?_⟩
    refine ite2 (fun hg => ?_) (fun hg => ?_)
    · refine ⟨_, rfl, p, _, _, _, rfl, rfl, SqL.of hp, rfl, .inl ⟨_, rfl, ?_⟩⟩
      refine ⟨_, rfl, _, _, rfl, rfl, (by omega), ?_⟩
      refine ⟨_, rfl, p, _, _, _, rfl, rfl, SqL.of hp, rfl, .inl ⟨_, rfl, ?_⟩⟩
      refine ⟨_, rfl, _, _, rfl, rfl, wide_div hm mb (by decide) (by decide), ?_⟩
      refine ⟨_, rfl, p, _, _, _, rfl, rfl, hp, rfl, _, rfl, ?_⟩
      have fm := fmod_pos (x := g) hm
      refine k _ _ fm.1 fm.2 ⟨c, ns, i, g / m, upd_same, ?_, i0, by omega, Int.ediv_nonneg g0 (by omega), hl⟩ (fr_upd hp)
      rw [upd_ne cp]; exact hc
    · refine ⟨_, rfl, p, _, _, _, rfl, rfl, SqL.of hp, rfl, ?_⟩
      refine ⟨_, rfl, _, _, rfl, rfl, _, rfl, p, _, _, _, rfl, rfl, hp, rfl, ?_⟩
      -- the index is one more
      have f1 : Fr p H (upd H p (.lst [.ref c, .int (i + 1), .int g])) := fr_upd hp
      have hp1 : (upd H p (.lst [.ref c, .int (i + 1), .int g])) p = some (.lst [.ref c, .int (i + 1), .int g]) := upd_same
      have hc1 : (upd H p (.lst [.ref c, .int (i + 1), .int g])) c = some (.lst (ns.map V.int)) := by rw [upd_ne cp]; exact hc
      show _
      refine ⟨_, rfl, _, _, rfl, rfl, .inl ⟨by decide, by decide⟩, _, _, rfl, rfl, ?_⟩
      refine ⟨fun σ' H' => ∃ raw : Int, σ' = [some (.ref p), some (.int m), Option.none, some (.int i), some (.int raw), Option.none, Option.none] ∧ Same (upd H p (.lst [.ref c, .int (i + 1), .int g])) H', ?_, ?_⟩
      · refine ⟨_, rfl, p, _, _, _, rfl, rfl, SqL.of hp1, rfl, Nat.zero_le _, fun l hl0 => ?_⟩
        refine ⟨.list (ns.map PyData.int), .list [], .lst (SqL.of (same_new hl0 _ _ hc1)) (dp_ints ns), .lst (SqL.of upd_same) .nil, PySem.W.ke_shaped_ints ns, by decide +kernel, _, rfl, ?_⟩
        have s1 := same_new (o := .lst []) hl0
        cases ns with
        | nil => exact iteF ⟨_, rfl, s1⟩
        | cons z r =>
          refine iteT ?_
          refine ⟨_, rfl, p, _, _, _, rfl, rfl, SqL.of (s1 _ _ hp1), rfl, ?_⟩
          refine ⟨_, rfl, .inl ⟨_, rfl, ?_⟩⟩
          refine ⟨_, rfl, p, _, _, _, rfl, rfl, SqL.of (s1 _ _ hp1), rfl, c, _, rfl, .inl (SqL.of (s1 _ _ hc1)), _, _, rfl, rfl, ?_⟩
          have lp : (0 : Int) < (((z :: r).map V.int).length : Nat) := by rw [List.length_map, List.length_cons]; omega
          have fm := fmod_pos (x := i) lp
          have fm2 : i.fmod (((z :: r).map V.int).length : Nat) < (((z :: r).length : Nat) : Int) := by have := fm.2; rw [List.length_map] at this; rw [List.length_map]; exact this
          obtain ⟨y, hy⟩ := atI_in fm.1 fm2
          exact ⟨by omega, c, _, _, _, rfl, rfl, SqL.of (s1 _ _ hc1), hy, y, rfl, s1⟩
      · rintro σ' H' ⟨raw, rfl, s1⟩
        have hp2 := s1 _ _ hp1
        have hc2 := s1 _ _ hc1
        have f2 : Fr p H H' := f1.trans (same_fr s1)
        have penE : ∀ g' : Int, 0 ≤ g' → Pen (upd H' p (.lst [.ref c, .int (i + 1), .int g'])) p (n + 1) := fun g' h' => ⟨c, ns, i + 1, g', upd_same, by rw [upd_ne cp]; exact hc2, by omega, by omega, h', hl⟩
        refine ⟨fun σ'' H'' => σ'' = [some (.ref p), some (.int m), Option.none, some (.int i), some (.int raw), Option.none, Option.none] ∧ H'' = H', ?_, ?_⟩
        rotate_left
        · rintro σ'' H'' ⟨rfl, rfl⟩
          refine ⟨_, rfl, .inl ⟨_, rfl, ?_⟩⟩
          refine ⟨_, _, rfl, rfl, (by show (_ : Int) ≠ 0; decide), _, rfl, _, _, rfl, rfl, .inl ⟨by decide, by decide⟩, _, _, rfl, rfl, _, _, rfl, rfl, ?_⟩
          have r1 := fmod_pos (x := raw) (m := 2147483549) (by decide)
          refine ⟨_, _, rfl, rfl, ⟨by decide, by decide, stir1 r1.1 (by omega) i0 (by omega) (by decide) (by decide) (by decide) (by decide)⟩, .inl ⟨_, rfl, ?_⟩⟩
          refine ⟨_, _, rfl, rfl, (by show (_ : Int) ≠ 0; decide), ?_⟩
          have r2 : ∀ x : Int, 0 ≤ x.fmod 2147483629 ∧ x.fmod 2147483629 < 2147483629 := fun x => fmod_pos (by decide)
          refine ⟨_, rfl, _, rfl, _, _, rfl, rfl, .inl ⟨by decide, by decide⟩, _, _, rfl, rfl, _, _, rfl, rfl, .inl (small64 (r2 _).1 (Int.lt_trans (r2 _).2 (by decide))), ?_⟩
          refine ⟨_, rfl, _, _, rfl, rfl, .inl ⟨by decide, by decide⟩, _, rfl, _, _, rfl, rfl, .inr ⟨by omega, by omega⟩, _, _, rfl, rfl, _, _, rfl, rfl, ?_⟩
          refine ⟨_, _, rfl, rfl, ⟨by decide, by decide, stir2 (r2 _).1 (Int.lt_trans (r2 _).2 (by decide)) i0 (by omega) (by decide) (by decide) (by decide) (by decide) (by decide) (by decide)⟩, .inl ⟨_, rfl, ?_⟩⟩
          refine ⟨_, _, rfl, rfl, (by show (_ : Int) ≠ 0; decide), ?_⟩
          refine ⟨_, rfl, _, _, rfl, rfl, wide_div (b := 10) (by decide) (by decide) (by decide) (by decide), .inl ⟨_, rfl, ?_⟩⟩
          refine ⟨_, rfl, _, _, rfl, rfl, (by omega), ?_⟩
          have fm := fun x => fmod_pos (x := x) hm
          exact k _ _ (fm _).1 (fm _).2 ⟨c, ns, i + 1, g, hp2, hc2, by omega, by omega, g0, hl⟩ f2
        refine ⟨_, rfl, _, rfl, p, _, _, _, rfl, rfl, SqL.of hp2, rfl, c, _, rfl, .inl (SqL.of hc2), _, _, rfl, rfl, _, rfl, ?_⟩
        refine ite2 (fun hlt => ?_) (fun hlt => ?_)
        · refine ⟨_, rfl, _, rfl, _, _, rfl, rfl, ⟨by decide, by decide, by decide⟩, _, _, rfl, rfl, _, rfl, ?_⟩
          refine ite2 (fun hge => ?_) (fun hge => ?_)
          · have hge := of_decide_eq_true hge
            refine ⟨_, rfl, _, rfl, _, _, rfl, rfl, ⟨by decide, by decide, by decide⟩, _, _, rfl, rfl, _, _, rfl, rfl, .inl ⟨by decide, by decide⟩, ?_⟩
            refine ⟨_, rfl, _, _, rfl, rfl, .inr ⟨_, rfl, ?_⟩⟩
            refine ⟨_, _, rfl, rfl, ?_⟩
            have gpos : (0 : Int) ≤ 2 * ((if raw < 0 then -raw else raw) - 10 ^ (18 : Int).toNat) + (if decide (raw < 0) = true then 1 else 0) := by
              have : (0 : Int) ≤ (if decide (raw < 0) = true then 1 else 0) := by split <;> omega
              omega
            refine ⟨_, rfl, .inl ⟨_, rfl, ?_⟩⟩
            refine ⟨_, rfl, _, _, rfl, rfl, wide_div hm mb (by decide) (by decide), ?_⟩
            refine ⟨_, rfl, p, _, _, _, rfl, rfl, hp2, rfl, ?_⟩
            refine ⟨_, rfl, .inl ⟨_, rfl, ?_⟩⟩
            refine ⟨_, rfl, _, _, rfl, rfl, (by omega), ?_⟩
            have fm := fun x => fmod_pos (x := x) hm
            exact k _ _ (fm _).1 (fm _).2 (penE _ (Int.ediv_nonneg gpos (by omega))) (f2.trans (fr_upd hp2))
          · exact ⟨rfl, rfl⟩
        · exact ⟨rfl, rfl⟩

--CUT
def spPick (K : PySem.W.Frag) : Sp := fun vs H Q _ => ∃ (p l : Addr) (xs : List V) (n : Nat), vs = [.ref p, .ref l] ∧ SqL K H l xs ∧ l ≠ p ∧ 0 < xs.length ∧ xs.length < 1000000 ∧ Pen H p n ∧ n < 100000 ∧ ∀ (x : V) (H' : Hp), x ∈ xs → Pen H' p (n + 1) → Fr p H H' → Q x H'
theorem ok_pick (T : Txt K mg) : FnOk P w K mg base CX0 2 T.a_pick T.fd_pick ["_law_pen_here", "_law_some"] (spPick K) := by
  refine T.F_pick.ok sc_pick (fun vs H Q E h => ?_) (fun cdv A outer s H vs Q E hr h => ?_)
  · obtain ⟨p, l, xs, n, rfl, _⟩ := h; rfl
  · obtain ⟨p, l, xs, n, rfl, hS, hne, h0, h1, hP, hn, k⟩ := h
    refine ⟨_, pss_one (ps_ret (pe_ix ix_list (pv 1) (pe_call (ok_draw T) (hr.mono (by decide)) rfl T.m_draw T.F_draw.kp (b_draw T) .nil pass0 (pa_cons (pv 0) (pa_cons (pe_callB call_len_seq (by rfl) T.n_len (by decide +kernel) (pa_cons (pv 1) (pa_nil))) (pa_nil)))) (fun _ _ => rfl))), ?_⟩
    refine ⟨_, rfl, _, rfl, _, rfl, l, xs, rfl, .inl hS, p, _, n, rfl, (by omega), (by omega), hP, hn, fun r H' r0 r1 hP' fr => ?_⟩
    obtain ⟨x, hx, he⟩ := atI_any r0 r1
    exact ⟨l, xs, _, x, rfl, rfl, fr.seq hne hS, he, k x H' hx hP' fr⟩
/-! ### what is neither the pen nor a table stays -/
open Classical in
noncomputable def core (p : Addr) (H : Hp) : Hp := fun b => if b = p ∨ ∃ ps, H b = some (.tbl ps) then Option.none else H b
theorem core_sub {p : Addr} {H : Hp} : Same (core p H) H := fun b o e => by
  unfold core at e
  split at e
  · cases e
  · exact e
theorem core_at {p : Addr} {H : Hp} {a : Addr} {o : HO} (h : H a = some o) (n : a ≠ p) (nt : ∀ ps, o ≠ .tbl ps) : core p H a = some o := by
  unfold core
  rw [if_neg]
  · exact h
  · rintro (z | ⟨ps, z⟩)
    · exact n z
    · rw [h] at z
      exact nt ps (Option.some.inj z)
theorem core_of {p : Addr} {H : Hp} {a : Addr} {o : HO} (h : core p H a = some o) : a ≠ p ∧ (∀ ps, o ≠ .tbl ps) ∧ H a = some o := by
  have h2 := core_sub _ _ h
  unfold core at h
  split at h
  · cases h
  · rename_i n
    exact ⟨fun z => n (.inl z), fun ps z => n (.inr ⟨ps, z ▸ h2⟩), h2⟩
theorem core_fr {p : Addr} {H H' : Hp} (e : Fr p H H') : Same (core p H) H' := fun b o q => by
  obtain ⟨q1, _, q3⟩ := core_of q
  exact e b o q1 q3
theorem core_same {p : Addr} {H H' : Hp} (e : Same H H') : Same (core p H) H' := fun b o q => e b o (core_of q).2.2
theorem core_up {p : Addr} {H H' : Hp} (e : Same (core p H) H') : Same (core p H) (core p H') := fun b o q => by
  obtain ⟨q1, q2, _⟩ := core_of q
  exact core_at (e b o q) q1 q2
theorem SqL.same {K : PySem.W.Frag} {H H' : Hp} {a : Addr} {xs : List V} (s : Same H H') (h : SqL K H a xs) : SqL K H' a xs := by
  rcases h with (h | ⟨o, h⟩) | h
  · exact .inl (.inl (s _ _ h))
  · exact .inl (.inr ⟨o, s _ _ h⟩)
  · exact .inr h
theorem SqT.same {K : PySem.W.Frag} {H H' : Hp} {a : Addr} {xs : List V} (s : Same H H') (h : SqT K H a xs) : SqT K H' a xs := by
  rcases h with (h | ⟨o, h⟩) | h
  · exact .inl (.inl (s _ _ h))
  · exact .inl (.inr ⟨o, s _ _ h⟩)
  · exact .inr h
theorem D1.same {K : PySem.W.Frag} {H H' : Hp} (s : Same H H') {v : V} {d : PyData} (h : D1 K H v d) : D1 K H' v d := by
  cases h with
  | non => exact .non
  | bl b => exact .bl b
  | int i => exact .int i
  | str x => exact .str x
  | ti h => exact .ti (SqT.same s h)
  | li n h => exact .li n (SqL.same s h)
  | d0 h => exact .d0 (s _ _ h)
  | d1 h => exact .d1 (s _ _ h)
theorem Shw.same {K : PySem.W.Frag} {H H' : Hp} (s : Same H H') {v : V} (h : Shw K H v) : Shw K H' v := by
  obtain ⟨d, m, h⟩ := h
  exact ⟨d, m, h.same s⟩

--CUT
def spThing (K : PySem.W.Frag) : Sp := fun vs H Q _ => ∃ (p : Addr) (n : Nat), vs = [.ref p] ∧ Pen H p n ∧ n < 90000 ∧ ∀ (x : V) (H' : Hp), Shw K (core p H') x → Pen H' p (n + 1) → Fr p H H' → Q x H'
theorem ok_thing (T : Txt K mg) : FnOk P w K mg base CX0 3 T.a_thing T.fd_thing ["_law_pen_here"] (spThing K) := by
  refine T.F_thing.ok sc_thing (fun vs H Q E h => ?_) (fun cdv A outer s H vs Q E hr h => ?_)
  · obtain ⟨p, n, rfl, _⟩ := h; rfl
  · obtain ⟨p, n, rfl, hP, hn, k⟩ := h
    refine ⟨_, pss_cons (ps_set (i := 1) sc_thing.nd rfl (Or.inl rfl) (pe_lst (pa_cons (pe_non) (pa_cons (pe_int) (pa_cons (pe_int) (pa_cons (pe_bl) (pa_cons (pe_bl) (pa_cons (pe_str) (pa_cons (pe_str) (pa_cons (pe_str) (pa_cons (pe_tup (pa_nil)) (pa_cons (pe_tup (pa_cons (pe_int) (pa_cons (pe_int) (pa_nil)))) (pa_cons (pe_lstN (pa_nil)) (pa_cons (pe_lstN (pa_cons (pe_int) (pa_nil))) (pa_cons (pe_dnewK) (pa_cons (pe_disp (pps_cons pe_str pe_int pps_nil) rfl rfl (by decide) (by decide)) (pa_cons (pe_op op_pow (pe_int) (pe_int)) (pa_cons (pe_un un_neg (pe_int)) (pa_nil)))))))))))))))))))
      (pss_one (ps_ret (pe_call (ok_pick T) (hr.mono (by decide)) rfl T.m_pick T.F_pick.kp (b_pick T) .nil pass0 (pa_cons (pv 0) (pa_cons (pv 1) (pa_nil)))))), ?_⟩
    have hP0 := hP
    refine ⟨(by show 0 ≤ sizeLine; decide), fun a0 h0 => ?_⟩
    have s0 := same_new (o := .tup []) h0
    have n0 : a0 ≠ p := hP0.neq h0
    have e0 : (upd H a0 (.tup [])) a0 = some (.tup []) := upd_same
    have hP1 := hP0.same s0
    generalize upd H a0 (.tup []) = G0 at s0 hP1 e0 ⊢
    refine ⟨(by show 2 ≤ sizeLine; decide), fun a1 h1 => ?_⟩
    have s1 := same_new (o := .tup [V.int 1, V.int 0]) h1
    have n1 : a1 ≠ p := hP1.neq h1
    have e1 : (upd G0 a1 (.tup [V.int 1, V.int 0])) a1 = some (.tup [V.int 1, V.int 0]) := upd_same
    have hP2 := hP1.same s1
    have e0 := s1 _ _ e0
    have s1 := s0.trans s1
    generalize upd G0 a1 (.tup [V.int 1, V.int 0]) = G1 at s1 hP2 e0 e1 ⊢
    refine ⟨(by show 0 ≤ sizeLine; decide), fun a2 m2 h2 => ?_⟩
    have s2 := same_new (o := .lst []) h2
    have n2 : a2 ≠ p := hP2.neq h2
    have e2 : (upd G1 a2 (.lst [])) a2 = some (.lst []) := upd_same
    have hP3 := hP2.same s2
    have e0 := s2 _ _ e0
    have e1 := s2 _ _ e1
    have s2 := s1.trans s2
    generalize upd G1 a2 (.lst []) = G2 at s2 hP3 e0 e1 e2 ⊢
    refine ⟨(by show 1 ≤ sizeLine; decide), fun a3 m3 h3 => ?_⟩
    have s3 := same_new (o := .lst [V.int 0]) h3
    have n3 : a3 ≠ p := hP3.neq h3
    have e3 : (upd G2 a3 (.lst [V.int 0])) a3 = some (.lst [V.int 0]) := upd_same
    have hP4 := hP3.same s3
    have e0 := s3 _ _ e0
    have e1 := s3 _ _ e1
    have e2 := s3 _ _ e2
    have s3 := s2.trans s3
    generalize upd G2 a3 (.lst [V.int 0]) = G3 at s3 hP4 e0 e1 e2 e3 ⊢
    intro a4 h4
    have s4 := same_new (o := .dK []) h4
    have n4 : a4 ≠ p := hP4.neq h4
    have e4 : (upd G3 a4 (.dK [])) a4 = some (.dK []) := upd_same
    have hP5 := hP4.same s4
    have e0 := s4 _ _ e0
    have e1 := s4 _ _ e1
    have e2 := s4 _ _ e2
    have e3 := s4 _ _ e3
    have s4 := s3.trans s4
    generalize upd G3 a4 (.dK []) = G4 at s4 hP5 e0 e1 e2 e3 e4 ⊢
    intro a5 h5
    refine ⟨upd_same, [(.inr "x", .int 1)], rfl, by decide, ?_⟩
    rw [upd_upd]
    have s5 := same_new (o := .dK (mergeK [] [(.inr "x", .int 1)])) h5
    have n5 : a5 ≠ p := hP5.neq h5
    have e5 : (upd G4 a5 (.dK (mergeK [] [(.inr "x", .int 1)]))) a5 = some (.dK [(.inr "x", .int 1)]) := upd_same
    have hP6 := hP5.same s5
    have e0 := s5 _ _ e0
    have e1 := s5 _ _ e1
    have e2 := s5 _ _ e2
    have e3 := s5 _ _ e3
    have e4 := s5 _ _ e4
    have s5 := s4.trans s5
    generalize upd G4 a5 (.dK (mergeK [] [(.inr "x", .int 1)])) = G5 at s5 hP6 e0 e1 e2 e3 e4 e5 ⊢
    refine ⟨_, _, rfl, rfl, ⟨by decide, by decide, by decide⟩, 7, rfl, (by show 16 ≤ sizeLine; decide), fun L hL => ?_⟩
    generalize hv : (V.int ((10 : Int) ^ Int.toNat 59)) = v59
    generalize hx : [V.non, V.int 0, V.int 1, V.bl true, V.bl false, V.str "", V.str "wheel 2 0 0", V.str "a", V.ref a0, V.ref a1, V.ref a2, V.ref a3, V.ref a4, V.ref a5, v59, V.int (-7)] = xs
    have sL := same_new (o := .lst xs) hL
    have nL : L ≠ p := hP6.neq hL
    have hPL := hP6.same sL
    have e0 := core_at (p := p) (sL _ _ e0) n0 (fun _ z => nomatch z)
    have e1 := core_at (p := p) (sL _ _ e1) n1 (fun _ z => nomatch z)
    have e2 := core_at (p := p) (sL _ _ e2) n2 (fun _ z => nomatch z)
    have e3 := core_at (p := p) (sL _ _ e3) n3 (fun _ z => nomatch z)
    have e4 := core_at (p := p) (sL _ _ e4) n4 (fun _ z => nomatch z)
    have e5 := core_at (p := p) (sL _ _ e5) n5 (fun _ z => nomatch z)
    have eL : (upd G5 L (.lst xs)) L = some (.lst xs) := upd_same
    have sL := s5.trans sL
    refine ⟨_, rfl, _, rfl, p, L, xs, n, rfl, SqL.of (by subst hv; subst hx; exact upd_same), nL, (by rw [← hx]; show 0 < 16; decide), (by rw [← hx]; show 16 < 1000000; decide), (by subst hv; subst hx; exact hPL), by omega, fun x H1 mx hP1 f1 => ?_⟩
    have f2 : Fr p (upd G5 L (.lst xs)) H1 := by subst hv; subst hx; exact f1
    refine k x H1 (Shw.same (core_up (core_fr f2)) ?_) hP1 ((same_fr sL).trans f2)
    rw [← hx] at mx
    simp only [List.mem_cons, List.not_mem_nil, or_false] at mx
    rcases mx with rfl | rfl | rfl | rfl | rfl | rfl | rfl | rfl | rfl | rfl | rfl | rfl | rfl | rfl | rfl | rfl
    · exact ⟨_, by simp [data16], .non⟩
    · exact ⟨.int 0, by simp [data16], .int _⟩
    · exact ⟨.int 1, by simp [data16], .int _⟩
    · exact ⟨.bool true, by simp [data16], .bl _⟩
    · exact ⟨.bool false, by simp [data16], .bl _⟩
    · exact ⟨.str "", by simp [data16], .str _⟩
    · exact ⟨.str "wheel 2 0 0", by simp [data16], .str _⟩
    · exact ⟨.str "a", by simp [data16], .str _⟩
    · exact ⟨.tuple ([].map PyData.int), by simp [data16], .ti (SqT.of e0)⟩
    · exact ⟨.tuple ([1, 0].map PyData.int), by simp [data16], .ti (SqT.of e1)⟩
    · exact ⟨.list ([].map PyData.int), by simp [data16], .li m2 (SqL.of e2)⟩
    · exact ⟨.list ([0].map PyData.int), by simp [data16], .li m3 (SqL.of e3)⟩
    · exact ⟨.dict [], by simp [data16], .d0 e4⟩
    · exact ⟨.dict [(.str "x", .int 1)], by simp [data16], .d1 e5⟩
    · rw [← hv]
      exact ⟨.int (10 ^ 59), by simp [data16], .int _⟩
    · exact ⟨.int (-7), by simp [data16], .int _⟩

--CUT
/-- the classes of errors in the order of the law; the base behind them -/
def cls (T : Txt K mg) (j : Nat) : Addr := [T.e_BadNumber.C, T.e_BadValue.C, T.e_BadLot.C, T.e_BadWheel.C, T.e_BadMeter.C, T.e_BadShelf.C, T.e_BadFollower.C, T.e_Unlike.C, T.e_BadMark.C, T.e_BadGear.C, T.e_BadLog.C, T.e_BadDeed.C, T.e_NoPlace.C, T.e_NoName.C, T.e_BadLine.C, T.e_BadText.C, T.e_TooMany.C, T.e_NoMember.C, T.e_Unfit.C, T.e_Nothing.C].getD j T.e_ReachError.C
theorem cls_err (T : Txt K mg) : ∀ j, j < 21 → ErrC K (cls T j)
  | 0, _ => T.e_BadNumber.err
  | 1, _ => T.e_BadValue.err
  | 2, _ => T.e_BadLot.err
  | 3, _ => T.e_BadWheel.err
  | 4, _ => T.e_BadMeter.err
  | 5, _ => T.e_BadShelf.err
  | 6, _ => T.e_BadFollower.err
  | 7, _ => T.e_Unlike.err
  | 8, _ => T.e_BadMark.err
  | 9, _ => T.e_BadGear.err
  | 10, _ => T.e_BadLog.err
  | 11, _ => T.e_BadDeed.err
  | 12, _ => T.e_NoPlace.err
  | 13, _ => T.e_NoName.err
  | 14, _ => T.e_BadLine.err
  | 15, _ => T.e_BadText.err
  | 16, _ => T.e_TooMany.err
  | 17, _ => T.e_NoMember.err
  | 18, _ => T.e_Unfit.err
  | 19, _ => T.e_Nothing.err
  | 20, _ => T.e_ReachError.err
  | _ + 21, h => by omega
def rowB (j : Nat) : List Bool := (List.range 20).map fun i => decide (i = j)
def row (j : Nat) : List V := (rowB j).map V.bl
def spClasses (T : Txt K mg) : Sp := fun vs H Q _ => ∃ (a : Addr) (j : Nat), vs = [.ref a] ∧ j < 21 ∧ Er H a (cls T j) ∧ ∀ (p : Addr) (H' : Hp), Same H H' → H' p = some (.lst (row j)) → Q (.ref p) H'
theorem ok_classes (T : Txt K mg) : FnOk P w K mg base CX0 2 T.a_classes T.fd_classes ["_law_error"] (spClasses T) := by
  refine T.F_classes.ok sc_classes (fun vs H Q E h => ?_) (fun cdv A outer s H vs Q E hr h => ?_)
  · obtain ⟨a, j, rfl, _⟩ := h; rfl
  · obtain ⟨a, j, rfl, hj, he, k⟩ := h
    have er := cls_err T j hj
    refine ⟨_, pss_cons (ps_set (i := 1) sc_classes.nd rfl (Or.inl rfl) (pe_lst (pa_cons (pe_callB call_isE (by rfl) T.n_isinstance (by decide +kernel) (pa_cons (pv 0) (pa_cons (pe_glob (v := .ref T.e_BadNumber.C) rfl T.e_BadNumber.m rfl) (pa_nil)))) (pa_cons (pe_callB call_isE (by rfl) T.n_isinstance (by decide +kernel) (pa_cons (pv 0) (pa_cons (pe_glob (v := .ref T.e_BadValue.C) rfl T.e_BadValue.m rfl) (pa_nil)))) (pa_cons (pe_callB call_isE (by rfl) T.n_isinstance (by decide +kernel) (pa_cons (pv 0) (pa_cons (pe_glob (v := .ref T.e_BadLot.C) rfl T.e_BadLot.m rfl) (pa_nil)))) (pa_nil))))))
      (pss_cons (ps_set (i := 1) sc_classes.nd rfl (Or.inl rfl) (pe_op op_cat (pv 1) (pe_lst (pa_cons (pe_callB call_isE (by rfl) T.n_isinstance (by decide +kernel) (pa_cons (pv 0) (pa_cons (pe_glob (v := .ref T.e_BadWheel.C) rfl T.e_BadWheel.m rfl) (pa_nil)))) (pa_cons (pe_callB call_isE (by rfl) T.n_isinstance (by decide +kernel) (pa_cons (pv 0) (pa_cons (pe_glob (v := .ref T.e_BadMeter.C) rfl T.e_BadMeter.m rfl) (pa_nil)))) (pa_cons (pe_callB call_isE (by rfl) T.n_isinstance (by decide +kernel) (pa_cons (pv 0) (pa_cons (pe_glob (v := .ref T.e_BadShelf.C) rfl T.e_BadShelf.m rfl) (pa_nil)))) (pa_nil)))))))
      (pss_cons (ps_set (i := 1) sc_classes.nd rfl (Or.inl rfl) (pe_op op_cat (pv 1) (pe_lst (pa_cons (pe_callB call_isE (by rfl) T.n_isinstance (by decide +kernel) (pa_cons (pv 0) (pa_cons (pe_glob (v := .ref T.e_BadFollower.C) rfl T.e_BadFollower.m rfl) (pa_nil)))) (pa_cons (pe_callB call_isE (by rfl) T.n_isinstance (by decide +kernel) (pa_cons (pv 0) (pa_cons (pe_glob (v := .ref T.e_Unlike.C) rfl T.e_Unlike.m rfl) (pa_nil)))) (pa_cons (pe_callB call_isE (by rfl) T.n_isinstance (by decide +kernel) (pa_cons (pv 0) (pa_cons (pe_glob (v := .ref T.e_BadMark.C) rfl T.e_BadMark.m rfl) (pa_nil)))) (pa_nil)))))))
      (pss_cons (ps_set (i := 1) sc_classes.nd rfl (Or.inl rfl) (pe_op op_cat (pv 1) (pe_lst (pa_cons (pe_callB call_isE (by rfl) T.n_isinstance (by decide +kernel) (pa_cons (pv 0) (pa_cons (pe_glob (v := .ref T.e_BadGear.C) rfl T.e_BadGear.m rfl) (pa_nil)))) (pa_cons (pe_callB call_isE (by rfl) T.n_isinstance (by decide +kernel) (pa_cons (pv 0) (pa_cons (pe_glob (v := .ref T.e_BadLog.C) rfl T.e_BadLog.m rfl) (pa_nil)))) (pa_cons (pe_callB call_isE (by rfl) T.n_isinstance (by decide +kernel) (pa_cons (pv 0) (pa_cons (pe_glob (v := .ref T.e_BadDeed.C) rfl T.e_BadDeed.m rfl) (pa_nil)))) (pa_nil)))))))
      (pss_cons (ps_set (i := 1) sc_classes.nd rfl (Or.inl rfl) (pe_op op_cat (pv 1) (pe_lst (pa_cons (pe_callB call_isE (by rfl) T.n_isinstance (by decide +kernel) (pa_cons (pv 0) (pa_cons (pe_glob (v := .ref T.e_NoPlace.C) rfl T.e_NoPlace.m rfl) (pa_nil)))) (pa_cons (pe_callB call_isE (by rfl) T.n_isinstance (by decide +kernel) (pa_cons (pv 0) (pa_cons (pe_glob (v := .ref T.e_NoName.C) rfl T.e_NoName.m rfl) (pa_nil)))) (pa_cons (pe_callB call_isE (by rfl) T.n_isinstance (by decide +kernel) (pa_cons (pv 0) (pa_cons (pe_glob (v := .ref T.e_BadLine.C) rfl T.e_BadLine.m rfl) (pa_nil)))) (pa_nil)))))))
      (pss_cons (ps_set (i := 1) sc_classes.nd rfl (Or.inl rfl) (pe_op op_cat (pv 1) (pe_lst (pa_cons (pe_callB call_isE (by rfl) T.n_isinstance (by decide +kernel) (pa_cons (pv 0) (pa_cons (pe_glob (v := .ref T.e_BadText.C) rfl T.e_BadText.m rfl) (pa_nil)))) (pa_cons (pe_callB call_isE (by rfl) T.n_isinstance (by decide +kernel) (pa_cons (pv 0) (pa_cons (pe_glob (v := .ref T.e_TooMany.C) rfl T.e_TooMany.m rfl) (pa_nil)))) (pa_cons (pe_callB call_isE (by rfl) T.n_isinstance (by decide +kernel) (pa_cons (pv 0) (pa_cons (pe_glob (v := .ref T.e_NoMember.C) rfl T.e_NoMember.m rfl) (pa_nil)))) (pa_nil)))))))
      (pss_one (ps_ret (pe_op op_cat (pv 1) (pe_lst (pa_cons (pe_callB call_isE (by rfl) T.n_isinstance (by decide +kernel) (pa_cons (pv 0) (pa_cons (pe_glob (v := .ref T.e_Unfit.C) rfl T.e_Unfit.m rfl) (pa_nil)))) (pa_cons (pe_callB call_isE (by rfl) T.n_isinstance (by decide +kernel) (pa_cons (pv 0) (pa_cons (pe_glob (v := .ref T.e_Nothing.C) rfl T.e_Nothing.m rfl) (pa_nil)))) (pa_nil)))))))))))), ?_⟩
    refine ⟨_, rfl, a, cls T j, .ref (cls T 0), .ref (cls T 0), decide (0 = j), rfl, he, er, (fun u h => h), T.kit 0 j (by decide) hj, _, rfl, a, cls T j, .ref (cls T 1), .ref (cls T 1), decide (1 = j), rfl, he, er, (fun u h => h), T.kit 1 j (by decide) hj, _, rfl, a, cls T j, .ref (cls T 2), .ref (cls T 2), decide (2 = j), rfl, he, er, (fun u h => h), T.kit 2 j (by decide) hj, (by show 3 ≤ sizeLine; decide), fun l0 h0 => ?_⟩
    have s0 := same_new (o := .lst [V.bl (decide (0 = j)), V.bl (decide (1 = j)), V.bl (decide (2 = j))]) h0
    have q0 : (upd H l0 (.lst [V.bl (decide (0 = j)), V.bl (decide (1 = j)), V.bl (decide (2 = j))])) l0 = some (.lst [V.bl (decide (0 = j)), V.bl (decide (1 = j)), V.bl (decide (2 = j))]) := upd_same
    generalize upd H l0 (.lst [V.bl (decide (0 = j)), V.bl (decide (1 = j)), V.bl (decide (2 = j))]) = G0 at s0 q0 ⊢
    have t0 := s0
    have m1 := q0
    refine ⟨_, rfl, _, rfl, a, cls T j, .ref (cls T 3), .ref (cls T 3), decide (3 = j), rfl, (he.same t0), er, (fun u h => h), T.kit 3 j (by decide) hj, _, rfl, a, cls T j, .ref (cls T 4), .ref (cls T 4), decide (4 = j), rfl, (he.same t0), er, (fun u h => h), T.kit 4 j (by decide) hj, _, rfl, a, cls T j, .ref (cls T 5), .ref (cls T 5), decide (5 = j), rfl, (he.same t0), er, (fun u h => h), T.kit 5 j (by decide) hj, (by show 3 ≤ sizeLine; decide), fun l1 h1 => ?_⟩
    have s1 := same_new (o := .lst [V.bl (decide (3 = j)), V.bl (decide (4 = j)), V.bl (decide (5 = j))]) h1
    have q1 : (upd G0 l1 (.lst [V.bl (decide (3 = j)), V.bl (decide (4 = j)), V.bl (decide (5 = j))])) l1 = some (.lst [V.bl (decide (3 = j)), V.bl (decide (4 = j)), V.bl (decide (5 = j))]) := upd_same
    have m1 := s1 _ _ m1
    have s1 := t0.trans s1
    generalize upd G0 l1 (.lst [V.bl (decide (3 = j)), V.bl (decide (4 = j)), V.bl (decide (5 = j))]) = G1 at s1 q1 m1 ⊢
    refine ⟨l0, l1, _, _, rfl, rfl, m1, q1, (by show 6 ≤ sizeLine; decide), fun r1 z1 => ?_⟩
    have u1 := same_new (o := .lst ([V.bl (decide (0 = j)), V.bl (decide (1 = j)), V.bl (decide (2 = j))] ++ [V.bl (decide (3 = j)), V.bl (decide (4 = j)), V.bl (decide (5 = j))])) z1
    have m2 : (upd G1 r1 (.lst ([V.bl (decide (0 = j)), V.bl (decide (1 = j)), V.bl (decide (2 = j))] ++ [V.bl (decide (3 = j)), V.bl (decide (4 = j)), V.bl (decide (5 = j))]))) r1 = some (.lst [V.bl (decide (0 = j)), V.bl (decide (1 = j)), V.bl (decide (2 = j)), V.bl (decide (3 = j)), V.bl (decide (4 = j)), V.bl (decide (5 = j))]) := upd_same
    have t1 := s1.trans u1
    generalize upd G1 r1 (.lst ([V.bl (decide (0 = j)), V.bl (decide (1 = j)), V.bl (decide (2 = j))] ++ [V.bl (decide (3 = j)), V.bl (decide (4 = j)), V.bl (decide (5 = j))])) = J1 at t1 m2 ⊢
    refine ⟨_, rfl, _, rfl, a, cls T j, .ref (cls T 6), .ref (cls T 6), decide (6 = j), rfl, (he.same t1), er, (fun u h => h), T.kit 6 j (by decide) hj, _, rfl, a, cls T j, .ref (cls T 7), .ref (cls T 7), decide (7 = j), rfl, (he.same t1), er, (fun u h => h), T.kit 7 j (by decide) hj, _, rfl, a, cls T j, .ref (cls T 8), .ref (cls T 8), decide (8 = j), rfl, (he.same t1), er, (fun u h => h), T.kit 8 j (by decide) hj, (by show 3 ≤ sizeLine; decide), fun l2 h2 => ?_⟩
    have s2 := same_new (o := .lst [V.bl (decide (6 = j)), V.bl (decide (7 = j)), V.bl (decide (8 = j))]) h2
    have q2 : (upd J1 l2 (.lst [V.bl (decide (6 = j)), V.bl (decide (7 = j)), V.bl (decide (8 = j))])) l2 = some (.lst [V.bl (decide (6 = j)), V.bl (decide (7 = j)), V.bl (decide (8 = j))]) := upd_same
    have m2 := s2 _ _ m2
    have s2 := t1.trans s2
    generalize upd J1 l2 (.lst [V.bl (decide (6 = j)), V.bl (decide (7 = j)), V.bl (decide (8 = j))]) = G2 at s2 q2 m2 ⊢
    refine ⟨r1, l2, _, _, rfl, rfl, m2, q2, (by show 9 ≤ sizeLine; decide), fun r2 z2 => ?_⟩
    have u2 := same_new (o := .lst ([V.bl (decide (0 = j)), V.bl (decide (1 = j)), V.bl (decide (2 = j)), V.bl (decide (3 = j)), V.bl (decide (4 = j)), V.bl (decide (5 = j))] ++ [V.bl (decide (6 = j)), V.bl (decide (7 = j)), V.bl (decide (8 = j))])) z2
    have m3 : (upd G2 r2 (.lst ([V.bl (decide (0 = j)), V.bl (decide (1 = j)), V.bl (decide (2 = j)), V.bl (decide (3 = j)), V.bl (decide (4 = j)), V.bl (decide (5 = j))] ++ [V.bl (decide (6 = j)), V.bl (decide (7 = j)), V.bl (decide (8 = j))]))) r2 = some (.lst [V.bl (decide (0 = j)), V.bl (decide (1 = j)), V.bl (decide (2 = j)), V.bl (decide (3 = j)), V.bl (decide (4 = j)), V.bl (decide (5 = j)), V.bl (decide (6 = j)), V.bl (decide (7 = j)), V.bl (decide (8 = j))]) := upd_same
    have t2 := s2.trans u2
    generalize upd G2 r2 (.lst ([V.bl (decide (0 = j)), V.bl (decide (1 = j)), V.bl (decide (2 = j)), V.bl (decide (3 = j)), V.bl (decide (4 = j)), V.bl (decide (5 = j))] ++ [V.bl (decide (6 = j)), V.bl (decide (7 = j)), V.bl (decide (8 = j))])) = J2 at t2 m3 ⊢
    refine ⟨_, rfl, _, rfl, a, cls T j, .ref (cls T 9), .ref (cls T 9), decide (9 = j), rfl, (he.same t2), er, (fun u h => h), T.kit 9 j (by decide) hj, _, rfl, a, cls T j, .ref (cls T 10), .ref (cls T 10), decide (10 = j), rfl, (he.same t2), er, (fun u h => h), T.kit 10 j (by decide) hj, _, rfl, a, cls T j, .ref (cls T 11), .ref (cls T 11), decide (11 = j), rfl, (he.same t2), er, (fun u h => h), T.kit 11 j (by decide) hj, (by show 3 ≤ sizeLine; decide), fun l3 h3 => ?_⟩
    have s3 := same_new (o := .lst [V.bl (decide (9 = j)), V.bl (decide (10 = j)), V.bl (decide (11 = j))]) h3
    have q3 : (upd J2 l3 (.lst [V.bl (decide (9 = j)), V.bl (decide (10 = j)), V.bl (decide (11 = j))])) l3 = some (.lst [V.bl (decide (9 = j)), V.bl (decide (10 = j)), V.bl (decide (11 = j))]) := upd_same
    have m3 := s3 _ _ m3
    have s3 := t2.trans s3
    generalize upd J2 l3 (.lst [V.bl (decide (9 = j)), V.bl (decide (10 = j)), V.bl (decide (11 = j))]) = G3 at s3 q3 m3 ⊢
    refine ⟨r2, l3, _, _, rfl, rfl, m3, q3, (by show 12 ≤ sizeLine; decide), fun r3 z3 => ?_⟩
    have u3 := same_new (o := .lst ([V.bl (decide (0 = j)), V.bl (decide (1 = j)), V.bl (decide (2 = j)), V.bl (decide (3 = j)), V.bl (decide (4 = j)), V.bl (decide (5 = j)), V.bl (decide (6 = j)), V.bl (decide (7 = j)), V.bl (decide (8 = j))] ++ [V.bl (decide (9 = j)), V.bl (decide (10 = j)), V.bl (decide (11 = j))])) z3
    have m4 : (upd G3 r3 (.lst ([V.bl (decide (0 = j)), V.bl (decide (1 = j)), V.bl (decide (2 = j)), V.bl (decide (3 = j)), V.bl (decide (4 = j)), V.bl (decide (5 = j)), V.bl (decide (6 = j)), V.bl (decide (7 = j)), V.bl (decide (8 = j))] ++ [V.bl (decide (9 = j)), V.bl (decide (10 = j)), V.bl (decide (11 = j))]))) r3 = some (.lst [V.bl (decide (0 = j)), V.bl (decide (1 = j)), V.bl (decide (2 = j)), V.bl (decide (3 = j)), V.bl (decide (4 = j)), V.bl (decide (5 = j)), V.bl (decide (6 = j)), V.bl (decide (7 = j)), V.bl (decide (8 = j)), V.bl (decide (9 = j)), V.bl (decide (10 = j)), V.bl (decide (11 = j))]) := upd_same
    have t3 := s3.trans u3
    generalize upd G3 r3 (.lst ([V.bl (decide (0 = j)), V.bl (decide (1 = j)), V.bl (decide (2 = j)), V.bl (decide (3 = j)), V.bl (decide (4 = j)), V.bl (decide (5 = j)), V.bl (decide (6 = j)), V.bl (decide (7 = j)), V.bl (decide (8 = j))] ++ [V.bl (decide (9 = j)), V.bl (decide (10 = j)), V.bl (decide (11 = j))])) = J3 at t3 m4 ⊢
    refine ⟨_, rfl, _, rfl, a, cls T j, .ref (cls T 12), .ref (cls T 12), decide (12 = j), rfl, (he.same t3), er, (fun u h => h), T.kit 12 j (by decide) hj, _, rfl, a, cls T j, .ref (cls T 13), .ref (cls T 13), decide (13 = j), rfl, (he.same t3), er, (fun u h => h), T.kit 13 j (by decide) hj, _, rfl, a, cls T j, .ref (cls T 14), .ref (cls T 14), decide (14 = j), rfl, (he.same t3), er, (fun u h => h), T.kit 14 j (by decide) hj, (by show 3 ≤ sizeLine; decide), fun l4 h4 => ?_⟩
    have s4 := same_new (o := .lst [V.bl (decide (12 = j)), V.bl (decide (13 = j)), V.bl (decide (14 = j))]) h4
    have q4 : (upd J3 l4 (.lst [V.bl (decide (12 = j)), V.bl (decide (13 = j)), V.bl (decide (14 = j))])) l4 = some (.lst [V.bl (decide (12 = j)), V.bl (decide (13 = j)), V.bl (decide (14 = j))]) := upd_same
    have m4 := s4 _ _ m4
    have s4 := t3.trans s4
    generalize upd J3 l4 (.lst [V.bl (decide (12 = j)), V.bl (decide (13 = j)), V.bl (decide (14 = j))]) = G4 at s4 q4 m4 ⊢
    refine ⟨r3, l4, _, _, rfl, rfl, m4, q4, (by show 15 ≤ sizeLine; decide), fun r4 z4 => ?_⟩
    have u4 := same_new (o := .lst ([V.bl (decide (0 = j)), V.bl (decide (1 = j)), V.bl (decide (2 = j)), V.bl (decide (3 = j)), V.bl (decide (4 = j)), V.bl (decide (5 = j)), V.bl (decide (6 = j)), V.bl (decide (7 = j)), V.bl (decide (8 = j)), V.bl (decide (9 = j)), V.bl (decide (10 = j)), V.bl (decide (11 = j))] ++ [V.bl (decide (12 = j)), V.bl (decide (13 = j)), V.bl (decide (14 = j))])) z4
    have m5 : (upd G4 r4 (.lst ([V.bl (decide (0 = j)), V.bl (decide (1 = j)), V.bl (decide (2 = j)), V.bl (decide (3 = j)), V.bl (decide (4 = j)), V.bl (decide (5 = j)), V.bl (decide (6 = j)), V.bl (decide (7 = j)), V.bl (decide (8 = j)), V.bl (decide (9 = j)), V.bl (decide (10 = j)), V.bl (decide (11 = j))] ++ [V.bl (decide (12 = j)), V.bl (decide (13 = j)), V.bl (decide (14 = j))]))) r4 = some (.lst [V.bl (decide (0 = j)), V.bl (decide (1 = j)), V.bl (decide (2 = j)), V.bl (decide (3 = j)), V.bl (decide (4 = j)), V.bl (decide (5 = j)), V.bl (decide (6 = j)), V.bl (decide (7 = j)), V.bl (decide (8 = j)), V.bl (decide (9 = j)), V.bl (decide (10 = j)), V.bl (decide (11 = j)), V.bl (decide (12 = j)), V.bl (decide (13 = j)), V.bl (decide (14 = j))]) := upd_same
    have t4 := s4.trans u4
    generalize upd G4 r4 (.lst ([V.bl (decide (0 = j)), V.bl (decide (1 = j)), V.bl (decide (2 = j)), V.bl (decide (3 = j)), V.bl (decide (4 = j)), V.bl (decide (5 = j)), V.bl (decide (6 = j)), V.bl (decide (7 = j)), V.bl (decide (8 = j)), V.bl (decide (9 = j)), V.bl (decide (10 = j)), V.bl (decide (11 = j))] ++ [V.bl (decide (12 = j)), V.bl (decide (13 = j)), V.bl (decide (14 = j))])) = J4 at t4 m5 ⊢
    refine ⟨_, rfl, _, rfl, a, cls T j, .ref (cls T 15), .ref (cls T 15), decide (15 = j), rfl, (he.same t4), er, (fun u h => h), T.kit 15 j (by decide) hj, _, rfl, a, cls T j, .ref (cls T 16), .ref (cls T 16), decide (16 = j), rfl, (he.same t4), er, (fun u h => h), T.kit 16 j (by decide) hj, _, rfl, a, cls T j, .ref (cls T 17), .ref (cls T 17), decide (17 = j), rfl, (he.same t4), er, (fun u h => h), T.kit 17 j (by decide) hj, (by show 3 ≤ sizeLine; decide), fun l5 h5 => ?_⟩
    have s5 := same_new (o := .lst [V.bl (decide (15 = j)), V.bl (decide (16 = j)), V.bl (decide (17 = j))]) h5
    have q5 : (upd J4 l5 (.lst [V.bl (decide (15 = j)), V.bl (decide (16 = j)), V.bl (decide (17 = j))])) l5 = some (.lst [V.bl (decide (15 = j)), V.bl (decide (16 = j)), V.bl (decide (17 = j))]) := upd_same
    have m5 := s5 _ _ m5
    have s5 := t4.trans s5
    generalize upd J4 l5 (.lst [V.bl (decide (15 = j)), V.bl (decide (16 = j)), V.bl (decide (17 = j))]) = G5 at s5 q5 m5 ⊢
    refine ⟨r4, l5, _, _, rfl, rfl, m5, q5, (by show 18 ≤ sizeLine; decide), fun r5 z5 => ?_⟩
    have u5 := same_new (o := .lst ([V.bl (decide (0 = j)), V.bl (decide (1 = j)), V.bl (decide (2 = j)), V.bl (decide (3 = j)), V.bl (decide (4 = j)), V.bl (decide (5 = j)), V.bl (decide (6 = j)), V.bl (decide (7 = j)), V.bl (decide (8 = j)), V.bl (decide (9 = j)), V.bl (decide (10 = j)), V.bl (decide (11 = j)), V.bl (decide (12 = j)), V.bl (decide (13 = j)), V.bl (decide (14 = j))] ++ [V.bl (decide (15 = j)), V.bl (decide (16 = j)), V.bl (decide (17 = j))])) z5
    have m6 : (upd G5 r5 (.lst ([V.bl (decide (0 = j)), V.bl (decide (1 = j)), V.bl (decide (2 = j)), V.bl (decide (3 = j)), V.bl (decide (4 = j)), V.bl (decide (5 = j)), V.bl (decide (6 = j)), V.bl (decide (7 = j)), V.bl (decide (8 = j)), V.bl (decide (9 = j)), V.bl (decide (10 = j)), V.bl (decide (11 = j)), V.bl (decide (12 = j)), V.bl (decide (13 = j)), V.bl (decide (14 = j))] ++ [V.bl (decide (15 = j)), V.bl (decide (16 = j)), V.bl (decide (17 = j))]))) r5 = some (.lst [V.bl (decide (0 = j)), V.bl (decide (1 = j)), V.bl (decide (2 = j)), V.bl (decide (3 = j)), V.bl (decide (4 = j)), V.bl (decide (5 = j)), V.bl (decide (6 = j)), V.bl (decide (7 = j)), V.bl (decide (8 = j)), V.bl (decide (9 = j)), V.bl (decide (10 = j)), V.bl (decide (11 = j)), V.bl (decide (12 = j)), V.bl (decide (13 = j)), V.bl (decide (14 = j)), V.bl (decide (15 = j)), V.bl (decide (16 = j)), V.bl (decide (17 = j))]) := upd_same
    have t5 := s5.trans u5
    generalize upd G5 r5 (.lst ([V.bl (decide (0 = j)), V.bl (decide (1 = j)), V.bl (decide (2 = j)), V.bl (decide (3 = j)), V.bl (decide (4 = j)), V.bl (decide (5 = j)), V.bl (decide (6 = j)), V.bl (decide (7 = j)), V.bl (decide (8 = j)), V.bl (decide (9 = j)), V.bl (decide (10 = j)), V.bl (decide (11 = j)), V.bl (decide (12 = j)), V.bl (decide (13 = j)), V.bl (decide (14 = j))] ++ [V.bl (decide (15 = j)), V.bl (decide (16 = j)), V.bl (decide (17 = j))])) = J5 at t5 m6 ⊢
    refine ⟨_, rfl, _, rfl, a, cls T j, .ref (cls T 18), .ref (cls T 18), decide (18 = j), rfl, (he.same t5), er, (fun u h => h), T.kit 18 j (by decide) hj, _, rfl, a, cls T j, .ref (cls T 19), .ref (cls T 19), decide (19 = j), rfl, (he.same t5), er, (fun u h => h), T.kit 19 j (by decide) hj, (by show 2 ≤ sizeLine; decide), fun l6 h6 => ?_⟩
    have s6 := same_new (o := .lst [V.bl (decide (18 = j)), V.bl (decide (19 = j))]) h6
    have q6 : (upd J5 l6 (.lst [V.bl (decide (18 = j)), V.bl (decide (19 = j))])) l6 = some (.lst [V.bl (decide (18 = j)), V.bl (decide (19 = j))]) := upd_same
    have m6 := s6 _ _ m6
    have s6 := t5.trans s6
    generalize upd J5 l6 (.lst [V.bl (decide (18 = j)), V.bl (decide (19 = j))]) = G6 at s6 q6 m6 ⊢
    refine ⟨r5, l6, _, _, rfl, rfl, m6, q6, (by show 20 ≤ sizeLine; decide), fun r6 z6 => ?_⟩
    exact k r6 _ (s6.trans (same_new z6)) upd_same
--CUT
/-- errors in rows of two of a class, with these fields -/
def Ers (T : Txt K mg) (fs : List (Str × V)) (lo : Nat) (H : Hp) (as : List Addr) : Prop := ∀ (i : Nat) (a : Addr), as[i]? = some a → ErAt H a (cls T (lo + i / 2)) fs
theorem Ers.same {T : Txt K mg} {fs : List (Str × V)} {lo : Nat} {H H' : Hp} {as : List Addr} (s : Same H H') (h : Ers T fs lo H as) : Ers T fs lo H' as := fun i a e => (h i a e).same s
theorem Ers.nil {T : Txt K mg} {fs : List (Str × V)} {lo : Nat} {H : Hp} : Ers T fs lo H [] := fun i a e => by simp at e
theorem Ers.snoc {T : Txt K mg} {fs : List (Str × V)} {lo : Nat} {H H' : Hp} {as : List Addr} {a : Addr} (m j : Nat) (h : Ers T fs lo H as) (s : Same H H') (e : ErAt H' a (cls T j) fs) (hl : as.length = m) (hj : lo + m / 2 = j) : Ers T fs lo H' (as ++ [a]) := fun i b q => by
  rcases Nat.lt_or_ge i as.length with z | z
  · rw [List.getElem?_append_left z] at q
    exact (h i b q).same s
  · rw [List.getElem?_append_right z] at q
    have z2 : i = as.length := by
      rcases Nat.eq_zero_or_pos (i - as.length) with y | y
      · omega
      · rw [List.getElem?_eq_none (by rw [List.length_singleton]; omega)] at q
        cases q
    subst z2
    rw [Nat.sub_self] at q
    cases q
    rw [hl, hj]
    exact e
def spParted (T : Txt K mg) : Sp := fun vs H Q _ => ∃ v, vs = [v] ∧ ∀ (p : Addr) (as : List Addr) (H' : Hp), Same H H' → H' p = some (.lst (as.map V.ref)) → as.length = 12 → Ers T [("part", v)] 2 H' as → Q (.ref p) H'
theorem ok_parted (T : Txt K mg) : FnOk P w K mg base CX0 3 T.a_parted T.fd_parted ["_law_one"] (spParted T) := by
  refine T.F_parted.ok sc_parted (fun vs H Q E h => ?_) (fun cdv A outer s H vs Q E hr h => ?_)
  · obtain ⟨v, rfl, _⟩ := h; rfl
  · obtain ⟨v, rfl, k⟩ := h
    refine ⟨_, pss_cons (ps_set (i := 1) sc_parted.nd rfl (Or.inl rfl) (pe_lst (pa_cons (pe_err T.e_BadLot (by decide) (hr.mono (by decide)) rfl (pa_cons (pv 0) (pa_nil))) (pa_cons (pe_errK T.e_BadLot (hr.mono (by decide)) rfl (pk_cons (pv 0) (pk_nil))) (pa_cons (pe_err T.e_BadWheel (by decide) (hr.mono (by decide)) rfl (pa_cons (pv 0) (pa_nil))) (pa_cons (pe_errK T.e_BadWheel (hr.mono (by decide)) rfl (pk_cons (pv 0) (pk_nil))) (pa_cons (pe_err T.e_BadMeter (by decide) (hr.mono (by decide)) rfl (pa_cons (pv 0) (pa_nil))) (pa_cons (pe_errK T.e_BadMeter (hr.mono (by decide)) rfl (pk_cons (pv 0) (pk_nil))) (pa_nil)))))))))
      (pss_cons (ps_set (i := 1) sc_parted.nd rfl (Or.inl rfl) (pe_op op_cat (pv 1) (pe_lst (pa_cons (pe_err T.e_BadShelf (by decide) (hr.mono (by decide)) rfl (pa_cons (pv 0) (pa_nil))) (pa_cons (pe_errK T.e_BadShelf (hr.mono (by decide)) rfl (pk_cons (pv 0) (pk_nil))) (pa_cons (pe_err T.e_BadFollower (by decide) (hr.mono (by decide)) rfl (pa_cons (pv 0) (pa_nil))) (pa_cons (pe_errK T.e_BadFollower (hr.mono (by decide)) rfl (pk_cons (pv 0) (pk_nil))) (pa_nil))))))))
      (pss_one (ps_ret (pe_op op_cat (pv 1) (pe_lst (pa_cons (pe_err T.e_Unlike (by decide) (hr.mono (by decide)) rfl (pa_cons (pv 0) (pa_nil))) (pa_cons (pe_errK T.e_Unlike (hr.mono (by decide)) rfl (pk_cons (pv 0) (pk_nil))) (pa_nil)))))))), ?_⟩
    have c0 : Ers T [("part", v)] 2 H [] := Ers.nil
    have t0 := Same.refl H
    refine ⟨_, rfl, rfl, fun a0 H0 s0 e0 => ?_⟩
    have c1 := Ers.snoc 0 2 c0 s0 (show ErAt H0 a0 (cls T 2) [("part", v)] from e0) rfl (by decide)
    have t1 := t0.trans s0
    refine ⟨_, rfl, rfl, fun a1 H1 s1 e1 => ?_⟩
    have c2 := Ers.snoc 1 2 c1 s1 (show ErAt H1 a1 (cls T 2) [("part", v)] from e1) rfl (by decide)
    have t2 := t1.trans s1
    refine ⟨_, rfl, rfl, fun a2 H2 s2 e2 => ?_⟩
    have c3 := Ers.snoc 2 3 c2 s2 (show ErAt H2 a2 (cls T 3) [("part", v)] from e2) rfl (by decide)
    have t3 := t2.trans s2
    refine ⟨_, rfl, rfl, fun a3 H3 s3 e3 => ?_⟩
    have c4 := Ers.snoc 3 3 c3 s3 (show ErAt H3 a3 (cls T 3) [("part", v)] from e3) rfl (by decide)
    have t4 := t3.trans s3
    refine ⟨_, rfl, rfl, fun a4 H4 s4 e4 => ?_⟩
    have c5 := Ers.snoc 4 4 c4 s4 (show ErAt H4 a4 (cls T 4) [("part", v)] from e4) rfl (by decide)
    have t5 := t4.trans s4
    refine ⟨_, rfl, rfl, fun a5 H5 s5 e5 => ?_⟩
    have c6 := Ers.snoc 5 4 c5 s5 (show ErAt H5 a5 (cls T 4) [("part", v)] from e5) rfl (by decide)
    have t6 := t5.trans s5
    refine ⟨(by show 6 ≤ sizeLine; decide), fun l0 h0 => ?_⟩
    have v0 := same_new (o := .lst [V.ref a0, V.ref a1, V.ref a2, V.ref a3, V.ref a4, V.ref a5]) h0
    have q0 : (upd H5 l0 (.lst [V.ref a0, V.ref a1, V.ref a2, V.ref a3, V.ref a4, V.ref a5])) l0 = some (.lst [V.ref a0, V.ref a1, V.ref a2, V.ref a3, V.ref a4, V.ref a5]) := upd_same
    have c6 := c6.same v0
    have t6 := t6.trans v0
    generalize upd H5 l0 (.lst [V.ref a0, V.ref a1, V.ref a2, V.ref a3, V.ref a4, V.ref a5]) = G0 at t6 c6 q0 ⊢
    have m1 := q0
    refine ⟨_, rfl, _, rfl, rfl, fun a6 H6 s6 e6 => ?_⟩
    have c7 := Ers.snoc 6 5 c6 s6 (show ErAt H6 a6 (cls T 5) [("part", v)] from e6) rfl (by decide)
    have t7 := t6.trans s6
    have m1 := s6 _ _ m1
    refine ⟨_, rfl, rfl, fun a7 H7 s7 e7 => ?_⟩
    have c8 := Ers.snoc 7 5 c7 s7 (show ErAt H7 a7 (cls T 5) [("part", v)] from e7) rfl (by decide)
    have t8 := t7.trans s7
    have m1 := s7 _ _ m1
    refine ⟨_, rfl, rfl, fun a8 H8 s8 e8 => ?_⟩
    have c9 := Ers.snoc 8 6 c8 s8 (show ErAt H8 a8 (cls T 6) [("part", v)] from e8) rfl (by decide)
    have t9 := t8.trans s8
    have m1 := s8 _ _ m1
    refine ⟨_, rfl, rfl, fun a9 H9 s9 e9 => ?_⟩
    have c10 := Ers.snoc 9 6 c9 s9 (show ErAt H9 a9 (cls T 6) [("part", v)] from e9) rfl (by decide)
    have t10 := t9.trans s9
    have m1 := s9 _ _ m1
    refine ⟨(by show 4 ≤ sizeLine; decide), fun l1 h1 => ?_⟩
    have v1 := same_new (o := .lst [V.ref a6, V.ref a7, V.ref a8, V.ref a9]) h1
    have q1 : (upd H9 l1 (.lst [V.ref a6, V.ref a7, V.ref a8, V.ref a9])) l1 = some (.lst [V.ref a6, V.ref a7, V.ref a8, V.ref a9]) := upd_same
    have c10 := c10.same v1
    have t10 := t10.trans v1
    have m1 := v1 _ _ m1
    generalize upd H9 l1 (.lst [V.ref a6, V.ref a7, V.ref a8, V.ref a9]) = G1 at t10 c10 q1 m1 ⊢
    refine ⟨l0, l1, _, _, rfl, rfl, m1, q1, (by show 10 ≤ sizeLine; decide), fun r1 z1 => ?_⟩
    have u1 := same_new (o := .lst ([V.ref a0, V.ref a1, V.ref a2, V.ref a3, V.ref a4, V.ref a5] ++ [V.ref a6, V.ref a7, V.ref a8, V.ref a9])) z1
    have m2 : (upd G1 r1 (.lst ([V.ref a0, V.ref a1, V.ref a2, V.ref a3, V.ref a4, V.ref a5] ++ [V.ref a6, V.ref a7, V.ref a8, V.ref a9]))) r1 = some (.lst [V.ref a0, V.ref a1, V.ref a2, V.ref a3, V.ref a4, V.ref a5, V.ref a6, V.ref a7, V.ref a8, V.ref a9]) := upd_same
    have c10 := c10.same u1
    have t10 := t10.trans u1
    generalize upd G1 r1 (.lst ([V.ref a0, V.ref a1, V.ref a2, V.ref a3, V.ref a4, V.ref a5] ++ [V.ref a6, V.ref a7, V.ref a8, V.ref a9])) = J1 at t10 c10 m2 ⊢
    refine ⟨_, rfl, _, rfl, rfl, fun a10 H10 s10 e10 => ?_⟩
    have c11 := Ers.snoc 10 7 c10 s10 (show ErAt H10 a10 (cls T 7) [("part", v)] from e10) rfl (by decide)
    have t11 := t10.trans s10
    have m2 := s10 _ _ m2
    refine ⟨_, rfl, rfl, fun a11 H11 s11 e11 => ?_⟩
    have c12 := Ers.snoc 11 7 c11 s11 (show ErAt H11 a11 (cls T 7) [("part", v)] from e11) rfl (by decide)
    have t12 := t11.trans s11
    have m2 := s11 _ _ m2
    refine ⟨(by show 2 ≤ sizeLine; decide), fun l2 h2 => ?_⟩
    have v2 := same_new (o := .lst [V.ref a10, V.ref a11]) h2
    have q2 : (upd H11 l2 (.lst [V.ref a10, V.ref a11])) l2 = some (.lst [V.ref a10, V.ref a11]) := upd_same
    have c12 := c12.same v2
    have t12 := t12.trans v2
    have m2 := v2 _ _ m2
    generalize upd H11 l2 (.lst [V.ref a10, V.ref a11]) = G2 at t12 c12 q2 m2 ⊢
    refine ⟨r1, l2, _, _, rfl, rfl, m2, q2, (by show 12 ≤ sizeLine; decide), fun r2 z2 => ?_⟩
    have u2 := same_new (o := .lst ([V.ref a0, V.ref a1, V.ref a2, V.ref a3, V.ref a4, V.ref a5, V.ref a6, V.ref a7, V.ref a8, V.ref a9] ++ [V.ref a10, V.ref a11])) z2
    exact k r2 _ _ (t12.trans u2) upd_same rfl (c12.same u2)
--CUT
def spPlaced (T : Txt K mg) : Sp := fun vs H Q _ => ∃ v, vs = [v] ∧ ∀ (p : Addr) (as : List Addr) (H' : Hp), Same H H' → H' p = some (.lst (as.map V.ref)) → as.length = 10 → Ers T [("at", v)] 8 H' as → Q (.ref p) H'
theorem ok_placed (T : Txt K mg) : FnOk P w K mg base CX0 3 T.a_placed T.fd_placed ["_law_one"] (spPlaced T) := by
  refine T.F_placed.ok sc_placed (fun vs H Q E h => ?_) (fun cdv A outer s H vs Q E hr h => ?_)
  · obtain ⟨v, rfl, _⟩ := h; rfl
  · obtain ⟨v, rfl, k⟩ := h
    refine ⟨_, pss_cons (ps_set (i := 1) sc_placed.nd rfl (Or.inl rfl) (pe_lst (pa_cons (pe_err T.e_BadMark (by decide) (hr.mono (by decide)) rfl (pa_cons (pv 0) (pa_nil))) (pa_cons (pe_errK T.e_BadMark (hr.mono (by decide)) rfl (pk_cons (pv 0) (pk_nil))) (pa_cons (pe_err T.e_BadGear (by decide) (hr.mono (by decide)) rfl (pa_cons (pv 0) (pa_nil))) (pa_cons (pe_errK T.e_BadGear (hr.mono (by decide)) rfl (pk_cons (pv 0) (pk_nil))) (pa_cons (pe_err T.e_BadLog (by decide) (hr.mono (by decide)) rfl (pa_cons (pv 0) (pa_nil))) (pa_cons (pe_errK T.e_BadLog (hr.mono (by decide)) rfl (pk_cons (pv 0) (pk_nil))) (pa_nil)))))))))
      (pss_one (ps_ret (pe_op op_cat (pv 1) (pe_lst (pa_cons (pe_err T.e_BadDeed (by decide) (hr.mono (by decide)) rfl (pa_cons (pv 0) (pa_nil))) (pa_cons (pe_errK T.e_BadDeed (hr.mono (by decide)) rfl (pk_cons (pv 0) (pk_nil))) (pa_cons (pe_err T.e_NoPlace (by decide) (hr.mono (by decide)) rfl (pa_cons (pv 0) (pa_nil))) (pa_cons (pe_errK T.e_NoPlace (hr.mono (by decide)) rfl (pk_cons (pv 0) (pk_nil))) (pa_nil))))))))), ?_⟩
    have c0 : Ers T [("at", v)] 8 H [] := Ers.nil
    have t0 := Same.refl H
    refine ⟨_, rfl, rfl, fun a0 H0 s0 e0 => ?_⟩
    have c1 := Ers.snoc 0 8 c0 s0 (show ErAt H0 a0 (cls T 8) [("at", v)] from e0) rfl (by decide)
    have t1 := t0.trans s0
    refine ⟨_, rfl, rfl, fun a1 H1 s1 e1 => ?_⟩
    have c2 := Ers.snoc 1 8 c1 s1 (show ErAt H1 a1 (cls T 8) [("at", v)] from e1) rfl (by decide)
    have t2 := t1.trans s1
    refine ⟨_, rfl, rfl, fun a2 H2 s2 e2 => ?_⟩
    have c3 := Ers.snoc 2 9 c2 s2 (show ErAt H2 a2 (cls T 9) [("at", v)] from e2) rfl (by decide)
    have t3 := t2.trans s2
    refine ⟨_, rfl, rfl, fun a3 H3 s3 e3 => ?_⟩
    have c4 := Ers.snoc 3 9 c3 s3 (show ErAt H3 a3 (cls T 9) [("at", v)] from e3) rfl (by decide)
    have t4 := t3.trans s3
    refine ⟨_, rfl, rfl, fun a4 H4 s4 e4 => ?_⟩
    have c5 := Ers.snoc 4 10 c4 s4 (show ErAt H4 a4 (cls T 10) [("at", v)] from e4) rfl (by decide)
    have t5 := t4.trans s4
    refine ⟨_, rfl, rfl, fun a5 H5 s5 e5 => ?_⟩
    have c6 := Ers.snoc 5 10 c5 s5 (show ErAt H5 a5 (cls T 10) [("at", v)] from e5) rfl (by decide)
    have t6 := t5.trans s5
    refine ⟨(by show 6 ≤ sizeLine; decide), fun l0 h0 => ?_⟩
    have v0 := same_new (o := .lst [V.ref a0, V.ref a1, V.ref a2, V.ref a3, V.ref a4, V.ref a5]) h0
    have q0 : (upd H5 l0 (.lst [V.ref a0, V.ref a1, V.ref a2, V.ref a3, V.ref a4, V.ref a5])) l0 = some (.lst [V.ref a0, V.ref a1, V.ref a2, V.ref a3, V.ref a4, V.ref a5]) := upd_same
    have c6 := c6.same v0
    have t6 := t6.trans v0
    generalize upd H5 l0 (.lst [V.ref a0, V.ref a1, V.ref a2, V.ref a3, V.ref a4, V.ref a5]) = G0 at t6 c6 q0 ⊢
    have m1 := q0
    refine ⟨_, rfl, _, rfl, rfl, fun a6 H6 s6 e6 => ?_⟩
    have c7 := Ers.snoc 6 11 c6 s6 (show ErAt H6 a6 (cls T 11) [("at", v)] from e6) rfl (by decide)
    have t7 := t6.trans s6
    have m1 := s6 _ _ m1
    refine ⟨_, rfl, rfl, fun a7 H7 s7 e7 => ?_⟩
    have c8 := Ers.snoc 7 11 c7 s7 (show ErAt H7 a7 (cls T 11) [("at", v)] from e7) rfl (by decide)
    have t8 := t7.trans s7
    have m1 := s7 _ _ m1
    refine ⟨_, rfl, rfl, fun a8 H8 s8 e8 => ?_⟩
    have c9 := Ers.snoc 8 12 c8 s8 (show ErAt H8 a8 (cls T 12) [("at", v)] from e8) rfl (by decide)
    have t9 := t8.trans s8
    have m1 := s8 _ _ m1
    refine ⟨_, rfl, rfl, fun a9 H9 s9 e9 => ?_⟩
    have c10 := Ers.snoc 9 12 c9 s9 (show ErAt H9 a9 (cls T 12) [("at", v)] from e9) rfl (by decide)
    have t10 := t9.trans s9
    have m1 := s9 _ _ m1
    refine ⟨(by show 4 ≤ sizeLine; decide), fun l1 h1 => ?_⟩
    have v1 := same_new (o := .lst [V.ref a6, V.ref a7, V.ref a8, V.ref a9]) h1
    have q1 : (upd H9 l1 (.lst [V.ref a6, V.ref a7, V.ref a8, V.ref a9])) l1 = some (.lst [V.ref a6, V.ref a7, V.ref a8, V.ref a9]) := upd_same
    have c10 := c10.same v1
    have t10 := t10.trans v1
    have m1 := v1 _ _ m1
    generalize upd H9 l1 (.lst [V.ref a6, V.ref a7, V.ref a8, V.ref a9]) = G1 at t10 c10 q1 m1 ⊢
    refine ⟨l0, l1, _, _, rfl, rfl, m1, q1, (by show 10 ≤ sizeLine; decide), fun r1 z1 => ?_⟩
    have u1 := same_new (o := .lst ([V.ref a0, V.ref a1, V.ref a2, V.ref a3, V.ref a4, V.ref a5] ++ [V.ref a6, V.ref a7, V.ref a8, V.ref a9])) z1
    exact k r1 _ _ (t10.trans u1) upd_same rfl (c10.same u1)

--CUT
def spTwo (K : PySem.W.Frag) : Sp := fun vs H Q _ => ∃ v1 v2, vs = [v1, v2] ∧ Shw K H v1 ∧ Shw K H v2 ∧ ∀ H', Same H H' → Q (.bl true) H'
theorem ok_two_right (T : Txt K mg) : FnG P w K mg base CX0 4 T.a_two_right (spTwo K) := by
  refine FnG.mk0 T.F_two_right sc_two_right (b_two_right T) (fun vs H Q E h => ?_) (fun cdv A outer s H vs Q E gu hr h => ?_)
  · obtain ⟨v1, v2, rfl, _⟩ := h; rfl
  · obtain ⟨v1, v2, rfl, w1, w2, k⟩ := h
    refine ⟨_, pss_cons (ps_par (i := 2) (j := 3) (by rfl) sc_two_right.nd rfl rfl (by decide) rfl rfl (pa_cons (pe_lst (pa_cons (pe_err T.e_BadText (by decide) (hr.mono (by decide)) rfl (pa_cons (pv 0) (pa_cons (pv 1) (pa_nil)))) (pa_cons (pe_errK T.e_BadText (hr.mono (by decide)) rfl (pk_cons (pv 1) (pk_cons (pv 0) (pk_nil)))) (pa_nil)))) (pa_cons (pe_lst (pa_cons (pe_err T.e_TooMany (by decide) (hr.mono (by decide)) rfl (pa_cons (pv 0) (pa_cons (pv 1) (pa_nil)))) (pa_cons (pe_errK T.e_TooMany (hr.mono (by decide)) rfl (pk_cons (pv 1) (pk_cons (pv 0) (pk_nil)))) (pa_nil)))) (pa_nil))) (by rfl))
      (pss_cons (ps_if (pt_cmpR (op_neD hr.units) (pe_lc (own := [("_law_error", 4)]) (g := gName 4) rfl sc_two_right.nd (pi_list (pv 2)) (blkOk_by (own := [("_law_error", 4)]) (N := ["_law_one", "_law_two", "_law_pages", "_law_bounds", "_law_error"]) (sc := defScope s_two_right) (by decide +kernel)) (fun _ _ _ _ _ => pg_name (i := 4) sc_two_right.nd rfl (Or.inl rfl)) (fun _ _ _ _ _ => pts_one (pt_cmpR op_ne (pe_callB (call_rep2 K (by rfl) (by exact gu) (by exact hr.units)) (by rfl) T.n_repr (by decide +kernel) (pa_cons (pe_lstN (pa_cons (pe_fld2 K (by rfl) (pv 4)) (pa_cons (pe_fld2 K (by rfl) (pv 4)) (pa_nil)))) (pa_nil))) (pe_callB (call_rep2 K (by rfl) (by exact gu) (by exact hr.units)) (by rfl) T.n_repr (by decide +kernel) (pa_cons (pe_lstN (pa_cons (pv 0) (pa_cons (pv 1) (pa_nil)))) (pa_nil))) (nomark _))) (fun _ _ _ _ _ => pe_int)) (pe_lst (pa_nil)) (nomark _)) (pss_one (ps_ret (pe_bl))) (pss_nil))
      (pss_one (ps_ret (pe_cmpR (op_eqD hr.units) (pe_lc (own := [("_law_error", 4)]) (g := gName 4) rfl sc_two_right.nd (pi_list (pv 3)) (blkOk_by (own := [("_law_error", 4)]) (N := ["_law_one", "_law_two", "_law_pages", "_law_bounds", "_law_error"]) (sc := defScope s_two_right) (by decide +kernel)) (fun _ _ _ _ _ => pg_name (i := 4) sc_two_right.nd rfl (Or.inl rfl)) (fun _ _ _ _ _ => pts_one (pt_cmpR op_ne (pe_callB (call_rep2 K (by rfl) (by exact gu) (by exact hr.units)) (by rfl) T.n_repr (by decide +kernel) (pa_cons (pe_lstN (pa_cons (pe_fld2 K (by rfl) (pv 4)) (pa_cons (pe_fld2 K (by rfl) (pv 4)) (pa_nil)))) (pa_nil))) (pe_callB (call_rep2 K (by rfl) (by exact gu) (by exact hr.units)) (by rfl) T.n_repr (by decide +kernel) (pa_cons (pe_lstN (pa_cons (pv 0) (pa_cons (pv 1) (pa_nil)))) (pa_nil))) (nomark _))) (fun _ _ _ _ _ => pe_int)) (pe_lst (pa_nil)) (nomark _))))), ?_⟩
    refine ⟨_, rfl, _, rfl, rfl, fun a0 H0 s0 e0 => ?_⟩
    refine ⟨_, rfl, _, rfl, rfl, fun a1 H1 s1 e1 => ?_⟩
    refine ⟨(by show 2 ≤ sizeLine; decide), fun l0 h0 => ?_⟩
    have t0 := same_new (o := .lst [V.ref a0, V.ref a1]) h0
    have q0 : (upd H1 l0 (.lst [V.ref a0, V.ref a1])) l0 = some (.lst [V.ref a0, V.ref a1]) := upd_same
    have e0 : ErAt (upd H1 l0 (.lst [V.ref a0, V.ref a1])) a0 (cls T 15) [("word", v2), ("line", v1)] := ErAt.same (s1.trans t0) e0
    have e1 : ErAt (upd H1 l0 (.lst [V.ref a0, V.ref a1])) a1 (cls T 15) [("word", v2), ("line", v1)] := ErAt.same t0 e1
    have S := (s0.trans s1).trans t0
    generalize upd H1 l0 (.lst [V.ref a0, V.ref a1]) = G0 at S q0 e0 e1 ⊢
    refine ⟨_, rfl, _, rfl, rfl, fun a2 H2 s2 e2 => ?_⟩
    refine ⟨_, rfl, _, rfl, rfl, fun a3 H3 s3 e3 => ?_⟩
    refine ⟨(by show 2 ≤ sizeLine; decide), fun l1 h1 => ?_⟩
    have t1 := same_new (o := .lst [V.ref a2, V.ref a3]) h1
    have q1 : (upd H3 l1 (.lst [V.ref a2, V.ref a3])) l1 = some (.lst [V.ref a2, V.ref a3]) := upd_same
    have e2 : ErAt (upd H3 l1 (.lst [V.ref a2, V.ref a3])) a2 (cls T 16) [("most", v2), ("what", v1)] := ErAt.same (s3.trans t1) e2
    have e3 : ErAt (upd H3 l1 (.lst [V.ref a2, V.ref a3])) a3 (cls T 16) [("most", v2), ("what", v1)] := ErAt.same t1 e3
    have u1 := (s2.trans s3).trans t1
    have e0 := e0.same u1
    have e1 := e1.same u1
    have q0 := u1 _ _ q0
    have S := S.trans u1
    generalize upd H3 l1 (.lst [V.ref a2, V.ref a3]) = G1 at S q0 q1 e0 e1 e2 e3 ⊢
    obtain ⟨d1, m1, b1⟩ := w1.same S
    obtain ⟨d2, m2, b2⟩ := w2.same S
    refine ⟨_, _, rfl, _, rfl, l0, rfl, ⟨_, SqL.of q0⟩, fun D hD => lc_list (K := K) (a := l0) (xs := [V.ref a0, V.ref a1]) (fun i H' => Same G1 H' ∧ H' D = some (.lst [])) ⟨same_new hD, upd_same⟩ (fun i H' _ e => SqL.of (e.1 _ _ q0)) ?_ ?_⟩
    · rintro i x H' hi ⟨s5, hD5⟩
      refine ⟨rfl, ?_⟩
      have ex : ∃ a, x = V.ref a ∧ ErAt G1 a (cls T 15) [("word", v2), ("line", v1)] := by
        match i, hi with
        | 0, hi => cases hi; exact ⟨_, rfl, e0⟩
        | 1, hi => cases hi; exact ⟨_, rfl, e1⟩
      obtain ⟨a, rfl, ea⟩ := ex
      obtain ⟨d, ha, hd⟩ := ea.same s5
      refine ⟨_, rfl, a, _, d, _, v1, rfl, ha, hd, cls_err T 15 (by decide), T.e_BadText.no _ (by simp), rfl, ?_⟩
      refine ⟨_, rfl, a, _, d, _, v2, rfl, ha, hd, cls_err T 15 (by decide), T.e_BadText.no _ (by simp), rfl, (by show 2 ≤ sizeLine; decide), fun p1 np1 hp1 => ?_⟩
      have z1 := s5.trans (same_new (o := .lst [v1, v2]) hp1)
      obtain ⟨f1, f2, f3⟩ := fine2 m1 m2
      refine ⟨_, _, rfl, .two np1 (SqL.of upd_same) (b1.same z1) (b2.same z1), f1, f2, f3, ?_⟩
      refine ⟨_, rfl, _, rfl, (by show 2 ≤ sizeLine; decide), fun p2 np2 hp2 => ?_⟩
      have z2 := same_new (o := .lst [v1, v2]) hp2
      have z3 := z1.trans z2
      refine ⟨_, _, rfl, .two np2 (SqL.of upd_same) (b1.same z3) (b2.same z3), f1, f2, f3, ?_⟩
      refine ⟨rfl, _, rfl, if_false_of (by simp) ⟨z3, same_new hp2 _ _ (same_new hp1 _ _ hD5)⟩⟩
    · rintro H4 ⟨s4, hD4⟩
      refine ⟨Nat.zero_le _, fun q hq => ⟨.list [], .list [], .lst (SqL.of (same_new hq _ _ hD4)) .nil, .lst (SqL.of upd_same) .nil, by decide +kernel, by decide +kernel, _, rfl, iteF ?_⟩⟩
      have s4 := s4.trans (same_new (o := .lst []) hq)
      generalize upd H4 q (.lst []) = G2 at s4 ⊢
      have q1 := s4 _ _ q1
      have e2 := e2.same s4
      have e3 := e3.same s4
      have b1 := b1.same s4
      have b2 := b2.same s4
      refine ⟨_, rfl, l1, rfl, ⟨_, SqL.of q1⟩, fun D2 hD2 => lc_list (K := K) (a := l1) (xs := [V.ref a2, V.ref a3]) (fun i H' => Same G2 H' ∧ H' D2 = some (.lst [])) ⟨same_new hD2, upd_same⟩ (fun i H' _ e => SqL.of (e.1 _ _ q1)) ?_ ?_⟩
      · rintro i x H' hi ⟨s5, hD5⟩
        refine ⟨rfl, ?_⟩
        have ex : ∃ a, x = V.ref a ∧ ErAt G2 a (cls T 16) [("most", v2), ("what", v1)] := by
          match i, hi with
          | 0, hi => cases hi; exact ⟨_, rfl, e2⟩
          | 1, hi => cases hi; exact ⟨_, rfl, e3⟩
        obtain ⟨a, rfl, ea⟩ := ex
        obtain ⟨d, ha, hd⟩ := ea.same s5
        refine ⟨_, rfl, a, _, d, _, v1, rfl, ha, hd, cls_err T 16 (by decide), T.e_TooMany.no _ (by simp), rfl, ?_⟩
        refine ⟨_, rfl, a, _, d, _, v2, rfl, ha, hd, cls_err T 16 (by decide), T.e_TooMany.no _ (by simp), rfl, (by show 2 ≤ sizeLine; decide), fun p1 np1 hp1 => ?_⟩
        have z1 := s5.trans (same_new (o := .lst [v1, v2]) hp1)
        obtain ⟨f1, f2, f3⟩ := fine2 m1 m2
        refine ⟨_, _, rfl, .two np1 (SqL.of upd_same) (b1.same z1) (b2.same z1), f1, f2, f3, ?_⟩
        refine ⟨_, rfl, _, rfl, (by show 2 ≤ sizeLine; decide), fun p2 np2 hp2 => ?_⟩
        have z2 := same_new (o := .lst [v1, v2]) hp2
        have z3 := z1.trans z2
        refine ⟨_, _, rfl, .two np2 (SqL.of upd_same) (b1.same z3) (b2.same z3), f1, f2, f3, ?_⟩
        exact ⟨rfl, _, rfl, if_false_of (by simp) ⟨z3, same_new hp2 _ _ (same_new hp1 _ _ hD5)⟩⟩
      · rintro H5 ⟨s5, hD5⟩
        refine ⟨Nat.zero_le _, fun q2 hq2 => ⟨.list [], .list [], .lst (SqL.of (same_new hq2 _ _ hD5)) .nil, .lst (SqL.of upd_same) .nil, by decide +kernel, by decide +kernel, ?_⟩⟩
        exact k _ ((S.trans s4).trans (s5.trans (same_new hq2)))

--CUT
theorem fld_value (T : Txt K mg) : ∀ j, 0 ≤ j → j < 2 → PySem.W.findIn K (.ref (cls T j)) "value" = some Option.none
  | 0, _, _ => T.e_BadNumber.no _ (by simp)
  | 1, _, _ => T.e_BadValue.no _ (by simp)
  | j + 2, _, h => by omega
theorem fld_part (T : Txt K mg) : ∀ j, 2 ≤ j → j < 8 → PySem.W.findIn K (.ref (cls T j)) "part" = some Option.none
  | 0, h, _ => absurd h (by decide)
  | 1, h, _ => absurd h (by decide)
  | 2, _, _ => T.e_BadLot.no _ (by simp)
  | 3, _, _ => T.e_BadWheel.no _ (by simp)
  | 4, _, _ => T.e_BadMeter.no _ (by simp)
  | 5, _, _ => T.e_BadShelf.no _ (by simp)
  | 6, _, _ => T.e_BadFollower.no _ (by simp)
  | 7, _, _ => T.e_Unlike.no _ (by simp)
  | j + 8, _, h => by omega
theorem fld_at (T : Txt K mg) : ∀ j, 8 ≤ j → j < 13 → PySem.W.findIn K (.ref (cls T j)) "at" = some Option.none
  | 0, h, _ => absurd h (by decide)
  | 1, h, _ => absurd h (by decide)
  | 2, h, _ => absurd h (by decide)
  | 3, h, _ => absurd h (by decide)
  | 4, h, _ => absurd h (by decide)
  | 5, h, _ => absurd h (by decide)
  | 6, h, _ => absurd h (by decide)
  | 7, h, _ => absurd h (by decide)
  | 8, _, _ => T.e_BadMark.no _ (by simp)
  | 9, _, _ => T.e_BadGear.no _ (by simp)
  | 10, _, _ => T.e_BadLog.no _ (by simp)
  | 11, _, _ => T.e_BadDeed.no _ (by simp)
  | 12, _, _ => T.e_NoPlace.no _ (by simp)
  | j + 13, _, h => by omega
theorem fld_name (T : Txt K mg) : ∀ j, 13 ≤ j → j < 14 → PySem.W.findIn K (.ref (cls T j)) "name" = some Option.none
  | 0, h, _ => absurd h (by decide)
  | 1, h, _ => absurd h (by decide)
  | 2, h, _ => absurd h (by decide)
  | 3, h, _ => absurd h (by decide)
  | 4, h, _ => absurd h (by decide)
  | 5, h, _ => absurd h (by decide)
  | 6, h, _ => absurd h (by decide)
  | 7, h, _ => absurd h (by decide)
  | 8, h, _ => absurd h (by decide)
  | 9, h, _ => absurd h (by decide)
  | 10, h, _ => absurd h (by decide)
  | 11, h, _ => absurd h (by decide)
  | 12, h, _ => absurd h (by decide)
  | 13, _, _ => T.e_NoName.no _ (by simp)
  | j + 14, _, h => by omega
theorem fld_word (T : Txt K mg) : ∀ j, 14 ≤ j → j < 15 → PySem.W.findIn K (.ref (cls T j)) "word" = some Option.none
  | 0, h, _ => absurd h (by decide)
  | 1, h, _ => absurd h (by decide)
  | 2, h, _ => absurd h (by decide)
  | 3, h, _ => absurd h (by decide)
  | 4, h, _ => absurd h (by decide)
  | 5, h, _ => absurd h (by decide)
  | 6, h, _ => absurd h (by decide)
  | 7, h, _ => absurd h (by decide)
  | 8, h, _ => absurd h (by decide)
  | 9, h, _ => absurd h (by decide)
  | 10, h, _ => absurd h (by decide)
  | 11, h, _ => absurd h (by decide)
  | 12, h, _ => absurd h (by decide)
  | 13, h, _ => absurd h (by decide)
  | 14, _, _ => T.e_BadLine.no _ (by simp)
  | j + 15, _, h => by omega
theorem map_get {as : List Addr} {i : Nat} {x : V} (h : (as.map V.ref)[i]? = some x) : ∃ a, as[i]? = some a ∧ x = V.ref a := by
  rw [List.getElem?_map] at h
  cases e : as[i]? with
  | none => rw [e] at h; cases h
  | some a => rw [e] at h; cases h; exact ⟨a, rfl, rfl⟩
theorem Ers.cls {T : Txt K mg} {fs : List (Str × V)} {lo hi n : Nat} {H : Hp} {as : List Addr} {f : Str} (h : Ers T fs lo H as) (hl : as.length = n) (hn : lo + (n - 1) / 2 < hi) (h21 : hi ≤ 21) (no : ∀ j, lo ≤ j → j < hi → PySem.W.findIn K (.ref (cls T j)) f = some Option.none) :
    ∀ (i : Nat) (a : Addr), as[i]? = some a → ∃ j, j < 21 ∧ ErAt H a (My.cls T j) fs ∧ PySem.W.findIn K (.ref (My.cls T j)) f = some Option.none := fun i a e => by
  have hi2 : i < as.length := (List.getElem?_eq_some_iff.mp e).1
  have hj : lo + i / 2 < hi := Nat.lt_of_le_of_lt (Nat.add_le_add_left (Nat.div_le_div_right (by omega)) lo) hn
  exact ⟨lo + i / 2, by omega, h i a e, no _ (by omega) hj⟩
/-- errors in rows of two of a class -/
def Es (T : Txt K mg) (lo : Nat) (H : Hp) (as : List Addr) : Prop := ∀ (i : Nat) (a : Addr), as[i]? = some a → Er H a (cls T (lo + i / 2))
theorem Ers.es {T : Txt K mg} {fs : List (Str × V)} {lo : Nat} {H : Hp} {as : List Addr} (h : Ers T fs lo H as) : Es T lo H as := fun i a e => .inl ⟨fs, h i a e⟩
theorem Es.same {T : Txt K mg} {lo : Nat} {H H' : Hp} {as : List Addr} (s : Same H H') (h : Es T lo H as) : Es T lo H' as := fun i a e => (h i a e).same s
theorem Es.app {T : Txt K mg} {lo m : Nat} {H : Hp} {as bs : List Addr} (h : Es T lo H as) (hl : as.length = 2 * m) (h2 : Es T (lo + m) H bs) : Es T lo H (as ++ bs) := fun i a e => by
  rcases Nat.lt_or_ge i as.length with z | z
  · rw [List.getElem?_append_left z] at e
    exact h i a e
  · rw [List.getElem?_append_right z] at e
    have q := h2 _ a e
    rw [show lo + m + (i - as.length) / 2 = lo + i / 2 by omega] at q
    exact q
theorem Es.nil {T : Txt K mg} {lo : Nat} {H : Hp} : Es T lo H [] := fun i a e => by simp at e
theorem Es.snoc {T : Txt K mg} {lo : Nat} {H H' : Hp} {as : List Addr} {a : Addr} (m j : Nat) (h : Es T lo H as) (s : Same H H') (e : Er H' a (cls T j)) (hl : as.length = m) (hj : lo + m / 2 = j) : Es T lo H' (as ++ [a]) := fun i b q => by
  rcases Nat.lt_or_ge i as.length with z | z
  · rw [List.getElem?_append_left z] at q
    exact (h i b q).same s
  · rw [List.getElem?_append_right z] at q
    have z2 : i = as.length := by
      rcases Nat.eq_zero_or_pos (i - as.length) with y | y
      · omega
      · rw [List.getElem?_eq_none (by rw [List.length_singleton]; omega)] at q
        cases q
    subst z2
    rw [Nat.sub_self] at q
    cases q
    rw [hl, hj]
    exact e
theorem dp_bools {H : Hp} : ∀ bs : List Bool, DpAll K H (bs.map V.bl) (bs.map PyData.bool)
  | [] => .nil
  | b :: bs => .cons (.bl b) (dp_bools bs)
theorem row_fine : ((List.range 21).all fun j => SeqAt.shaped (.list ((rowB j).map PyData.bool)) && PyData.eqv (.list ((rowB j).map PyData.bool)) (.list ((rowB j).map PyData.bool))) = true := by decide +kernel
theorem row_ok {j : Nat} (h : j < 21) : SeqAt.shaped (.list ((rowB j).map PyData.bool)) = true ∧ PyData.eqv (.list ((rowB j).map PyData.bool)) (.list ((rowB j).map PyData.bool)) = true := by
  have q := List.all_eq_true.mp row_fine j (List.mem_range.mpr h)
  rw [Bool.and_eq_true] at q
  exact q
theorem half_eq (t j : Nat) : decide (V.int (0 + (t : Int)) = V.int ((j : Int) / 2)) = decide (t = j / 2) := by
  rw [Bool.eq_iff_iff, decide_eq_true_iff, decide_eq_true_iff]
  constructor
  · intro h
    injection h with h
    omega
  · intro h
    rw [show (0 : Int) + (t : Int) = (j : Int) / 2 by omega]
theorem Es.two {T : Txt K mg} {lo j : Nat} {H : Hp} {a b : Addr} (h1 : Er H a (cls T j)) (h2 : Er H b (cls T j)) (e : lo = j) : Es T lo H [a, b] := fun i x q => by
  subst e
  match i, q with
  | 0, q => cases q; exact h1
  | 1, q => cases q; exact h2

--CUT
def spLaw (K : PySem.W.Frag) : Sp := fun vs H Q _ => ∃ (a : Addr) (ns : List Int), vs = [.ref a] ∧ SqL K H a (ns.map V.int) ∧ ns.length ≤ 63 ∧ ∀ H', Q (.bl true) H'
theorem ok_law (T : Txt K mg) : FnG P w K mg base CX0 6 T.a_law (spLaw K) := by
  refine FnG.mk0 T.F_law sc_law (b_law T) (fun vs H Q E h => ?_) (fun cdv A outer s H vs Q E gu hr h => ?_)
  · obtain ⟨a, ns, rfl, _⟩ := h; rfl
  · obtain ⟨a, ns, rfl, hS, hl, k⟩ := h
    refine ⟨_, pss_cons (ps_set (i := 1) sc_law.nd rfl (Or.inl rfl) (pe_call (ok_pen T) (hr.mono (by decide)) rfl T.m_pen T.F_pen.kp (b_pen T) .nil pass0 (pa_cons (pv 0) (pa_nil))))
      (pss_cons (ps_for PassesOwn.never rfl (pi_range1 (by rfl) T.n_range (pa_cons (pe_int) (pa_nil))) (pg_name (i := 2) sc_law.nd rfl (Or.inl rfl)) (pss_cons (ps_asg (pe_tup (pa_cons (pe_call (ok_thing T) (hr.mono (by decide)) rfl T.m_thing T.F_thing.kp (b_thing T) .nil pass0 (pa_cons (pv 1) (pa_nil))) (pa_cons (pe_call (ok_thing T) (hr.mono (by decide)) rfl T.m_thing T.F_thing.kp (b_thing T) .nil pass0 (pa_cons (pv 1) (pa_nil))) (pa_nil)))) (pg_tup rfl (pgs_cons (pg_name (i := 3) sc_law.nd rfl (Or.inr rfl)) (pgs_cons (pg_name (i := 4) sc_law.nd rfl (Or.inl rfl)) (pgs_nil)))))
      (pss_cons (ps_set (i := 5) sc_law.nd rfl (Or.inl rfl) (pe_lst (pa_cons (pe_err T.e_BadNumber (by decide) (hr.mono (by decide)) rfl (pa_cons (pv 3) (pa_nil))) (pa_cons (pe_errK T.e_BadNumber (hr.mono (by decide)) rfl (pk_cons (pv 3) (pk_nil))) (pa_cons (pe_err T.e_BadValue (by decide) (hr.mono (by decide)) rfl (pa_cons (pv 3) (pa_nil))) (pa_cons (pe_errK T.e_BadValue (hr.mono (by decide)) rfl (pk_cons (pv 3) (pk_nil))) (pa_nil)))))))
      (pss_cons (ps_par (i := 6) (j := 7) (by rfl) sc_law.nd rfl rfl (by decide) rfl rfl (pa_cons (pe_lst (pa_cons (pe_err T.e_NoName (by decide) (hr.mono (by decide)) rfl (pa_cons (pv 3) (pa_nil))) (pa_cons (pe_errK T.e_NoName (hr.mono (by decide)) rfl (pk_cons (pv 3) (pk_nil))) (pa_nil)))) (pa_cons (pe_lst (pa_cons (pe_err T.e_BadLine (by decide) (hr.mono (by decide)) rfl (pa_cons (pv 3) (pa_nil))) (pa_cons (pe_errK T.e_BadLine (hr.mono (by decide)) rfl (pk_cons (pv 3) (pk_nil))) (pa_nil)))) (pa_nil))) (by rfl))
      (pss_cons (ps_if (PW.pt (pw_or (pt_cmpR (op_neD hr.units) (pe_lc (own := [("_law_error", 8)]) (g := gName 8) rfl sc_law.nd (pi_list (pv 5)) (blkOk_by (own := [("_law_error", 8)]) (N := ["_law_script", "_law_pen_here", "_law_turn", "_law_one", "_law_two", "_law_valued", "_law_named", "_law_lines", "_law_error", "_law_rows", "_law_spot", "_law_number"]) (sc := defScope s_law) (by decide +kernel)) (fun _ _ _ _ _ => pg_name (i := 8) sc_law.nd rfl (Or.inl rfl)) (fun _ _ _ _ _ => pts_one (pt_cmpR op_ne (pe_callB (call_rep2 K (by rfl) (by exact gu) (by exact hr.units)) (by rfl) T.n_repr (by decide +kernel) (pa_cons (pe_fld2 K (by rfl) (pv 8)) (pa_nil))) (pe_callB (call_rep2 K (by rfl) (by exact gu) (by exact hr.units)) (by rfl) T.n_repr (by decide +kernel) (pa_cons (pv 3) (pa_nil))) (nomark _))) (fun _ _ _ _ _ => pe_int)) (pe_lst (pa_nil)) (nomark _)) (pw_or1 (pt_not (pt_val (pe_callG gu (ok_two_right T) (hr.mono (by decide)) T.F_two_right.kp rfl T.m_two_right pass0 (pa_cons (pv 3) (pa_cons (pv 4) (pa_nil))))))))) (pss_one (ps_ret (pe_bl))) (pss_nil))
      (pss_cons (ps_if (pt_cmpR (op_neD hr.units) (pe_lc (own := [("_law_error", 8)]) (g := gName 8) rfl sc_law.nd (pi_list (pe_call (ok_parted T) (hr.mono (by decide)) rfl T.m_parted T.F_parted.kp (b_parted T) .nil pass0 (pa_cons (pv 3) (pa_nil)))) (blkOk_by (own := [("_law_error", 8)]) (N := ["_law_script", "_law_pen_here", "_law_turn", "_law_one", "_law_two", "_law_valued", "_law_named", "_law_lines", "_law_error", "_law_rows", "_law_spot", "_law_number"]) (sc := defScope s_law) (by decide +kernel)) (fun _ _ _ _ _ => pg_name (i := 8) sc_law.nd rfl (Or.inl rfl)) (fun _ _ _ _ _ => pts_one (pt_cmpR op_ne (pe_callB (call_rep2 K (by rfl) (by exact gu) (by exact hr.units)) (by rfl) T.n_repr (by decide +kernel) (pa_cons (pe_fld2 K (by rfl) (pv 8)) (pa_nil))) (pe_callB (call_rep2 K (by rfl) (by exact gu) (by exact hr.units)) (by rfl) T.n_repr (by decide +kernel) (pa_cons (pv 3) (pa_nil))) (nomark _))) (fun _ _ _ _ _ => pe_int)) (pe_lst (pa_nil)) (nomark _)) (pss_one (ps_ret (pe_bl))) (pss_nil))
      (pss_cons (ps_if (pt_cmpR (op_neD hr.units) (pe_lc (own := [("_law_error", 8)]) (g := gName 8) rfl sc_law.nd (pi_list (pe_call (ok_placed T) (hr.mono (by decide)) rfl T.m_placed T.F_placed.kp (b_placed T) .nil pass0 (pa_cons (pv 3) (pa_nil)))) (blkOk_by (own := [("_law_error", 8)]) (N := ["_law_script", "_law_pen_here", "_law_turn", "_law_one", "_law_two", "_law_valued", "_law_named", "_law_lines", "_law_error", "_law_rows", "_law_spot", "_law_number"]) (sc := defScope s_law) (by decide +kernel)) (fun _ _ _ _ _ => pg_name (i := 8) sc_law.nd rfl (Or.inl rfl)) (fun _ _ _ _ _ => pts_one (pt_cmpR op_ne (pe_callB (call_rep2 K (by rfl) (by exact gu) (by exact hr.units)) (by rfl) T.n_repr (by decide +kernel) (pa_cons (pe_fld2 K (by rfl) (pv 8)) (pa_nil))) (pe_callB (call_rep2 K (by rfl) (by exact gu) (by exact hr.units)) (by rfl) T.n_repr (by decide +kernel) (pa_cons (pv 3) (pa_nil))) (nomark _))) (fun _ _ _ _ _ => pe_int)) (pe_lst (pa_nil)) (nomark _)) (pss_one (ps_ret (pe_bl))) (pss_nil))
      (pss_cons (ps_if (pt_cmpR (op_neD hr.units) (pe_op op_cat (pe_lc (own := [("_law_error", 8)]) (g := gName 8) rfl sc_law.nd (pi_list (pv 6)) (blkOk_by (own := [("_law_error", 8)]) (N := ["_law_script", "_law_pen_here", "_law_turn", "_law_one", "_law_two", "_law_valued", "_law_named", "_law_lines", "_law_error", "_law_rows", "_law_spot", "_law_number"]) (sc := defScope s_law) (by decide +kernel)) (fun _ _ _ _ _ => pg_name (i := 8) sc_law.nd rfl (Or.inl rfl)) (fun _ _ _ _ _ => pts_one (pt_cmpR op_ne (pe_callB (call_rep2 K (by rfl) (by exact gu) (by exact hr.units)) (by rfl) T.n_repr (by decide +kernel) (pa_cons (pe_fld2 K (by rfl) (pv 8)) (pa_nil))) (pe_callB (call_rep2 K (by rfl) (by exact gu) (by exact hr.units)) (by rfl) T.n_repr (by decide +kernel) (pa_cons (pv 3) (pa_nil))) (nomark _))) (fun _ _ _ _ _ => pe_int)) (pe_lc (own := [("_law_error", 8)]) (g := gName 8) rfl sc_law.nd (pi_list (pv 7)) (blkOk_by (own := [("_law_error", 8)]) (N := ["_law_script", "_law_pen_here", "_law_turn", "_law_one", "_law_two", "_law_valued", "_law_named", "_law_lines", "_law_error", "_law_rows", "_law_spot", "_law_number"]) (sc := defScope s_law) (by decide +kernel)) (fun _ _ _ _ _ => pg_name (i := 8) sc_law.nd rfl (Or.inl rfl)) (fun _ _ _ _ _ => pts_one (pt_cmpR op_ne (pe_callB (call_rep2 K (by rfl) (by exact gu) (by exact hr.units)) (by rfl) T.n_repr (by decide +kernel) (pa_cons (pe_fld2 K (by rfl) (pv 8)) (pa_nil))) (pe_callB (call_rep2 K (by rfl) (by exact gu) (by exact hr.units)) (by rfl) T.n_repr (by decide +kernel) (pa_cons (pv 3) (pa_nil))) (nomark _))) (fun _ _ _ _ _ => pe_int))) (pe_lst (pa_nil)) (nomark _)) (pss_one (ps_ret (pe_bl))) (pss_nil))
      (pss_cons (ps_set (i := 9) sc_law.nd rfl (Or.inl rfl) (pe_op op_cat (pe_op op_cat (pe_op op_cat (pe_op op_cat (pe_op op_cat (pv 5) (pe_call (ok_parted T) (hr.mono (by decide)) rfl T.m_parted T.F_parted.kp (b_parted T) .nil pass0 (pa_cons (pv 3) (pa_nil)))) (pe_call (ok_placed T) (hr.mono (by decide)) rfl T.m_placed T.F_placed.kp (b_placed T) .nil pass0 (pa_cons (pv 3) (pa_nil)))) (pv 6)) (pv 7)) (pe_lst (pa_cons (pe_err T.e_BadText (by decide) (hr.mono (by decide)) rfl (pa_cons (pv 3) (pa_cons (pv 4) (pa_nil)))) (pa_cons (pe_err T.e_BadText (by decide) (hr.mono (by decide)) rfl (pa_cons (pv 4) (pa_cons (pv 3) (pa_nil)))) (pa_nil))))))
      (pss_cons (ps_set (i := 9) sc_law.nd rfl (Or.inl rfl) (pe_op op_cat (pv 9) (pe_lst (pa_cons (pe_err T.e_TooMany (by decide) (hr.mono (by decide)) rfl (pa_cons (pv 3) (pa_cons (pv 4) (pa_nil)))) (pa_cons (pe_err T.e_TooMany (by decide) (hr.mono (by decide)) rfl (pa_cons (pv 4) (pa_cons (pv 3) (pa_nil)))) (pa_cons (pe_err0 T.e_NoMember rfl) (pa_cons (pe_err0 T.e_NoMember rfl) (pa_cons (pe_err0 T.e_Unfit rfl) (pa_cons (pe_err0 T.e_Unfit rfl) (pa_cons (pe_err0 T.e_Nothing rfl) (pa_cons (pe_err0 T.e_Nothing rfl) (pa_nil))))))))))))
      (pss_one (ps_for PassesOwn.never rfl (pi_enum (by rfl) T.n_enumerate (pa_cons (pv 9) pa_nil)) (pg_tup rfl (pgs_cons (pg_name (i := 10) sc_law.nd rfl (Or.inr rfl)) (pgs_cons (pg_name (i := 8) sc_law.nd rfl (Or.inl rfl)) (pgs_nil)))) (pss_cons (ps_if (pt_cmpR (op_neD hr.units) (pe_call (ok_classes T) (hr.mono (by decide)) rfl T.m_classes T.F_classes.kp (b_classes T) .nil pass0 (pa_cons (pv 8) (pa_nil))) (pe_lc (own := [("_law_number", 11)]) (g := gName 11) (tt := tYes) rfl sc_law.nd (pi_range1 (by rfl) T.n_range (pa_cons (pe_int) (pa_nil))) (blkOk_by (own := [("_law_number", 11)]) (N := ["_law_script", "_law_pen_here", "_law_turn", "_law_one", "_law_two", "_law_valued", "_law_named", "_law_lines", "_law_error", "_law_rows", "_law_spot", "_law_number"]) (sc := defScope s_law) (by decide +kernel)) (fun _ _ _ _ _ => pg_name (i := 11) sc_law.nd rfl (Or.inl rfl)) (fun _ _ _ _ _ => pts_nil) (fun _ _ _ _ _ => pe_cmpR op_eq (pv 11) (pe_op op_fdivW (pv 10) (pe_int)) (nomark _))) (nomark _)) (pss_one (ps_ret (pe_bl))) (pss_nil))
      (pss_one (ps_if (PW.pt (pw_or (pt_not (pt_val (pe_callB call_isE (by rfl) T.n_isinstance (by decide +kernel) (pa_cons (pv 8) (pa_cons (pe_glob (v := .ref T.e_ReachError.C) rfl T.e_ReachError.m rfl) (pa_nil)))))) (pw_or (pt_not (pt_val (pe_callB call_isE (by rfl) T.n_isinstance (by decide +kernel) (pa_cons (pv 8) (pa_cons (pe_bltn (v := .ty "ValueError") (u := .type "ValueError") (by rfl) T.n_ValueError (by decide +kernel) rfl) (pa_nil)))))) (pw_or1 (pt_val (pe_callB call_isE (by rfl) T.n_isinstance (by decide +kernel) (pa_cons (pv 8) (pa_cons (pe_bltn (v := .ty "LookupError") (u := .type "LookupError") (by rfl) T.n_LookupError (by decide +kernel) rfl) (pa_nil))))))))) (pss_one (ps_ret (pe_bl))) (pss_nil))))))))))))))))
      (pss_one (ps_ret (pe_and (pe_cmpR (op_eqD hr.units) (pe_call (ok_classes T) (hr.mono (by decide)) rfl T.m_classes T.F_classes.kp (b_classes T) .nil pass0 (pa_cons (pe_errS T.e_ReachError rfl) (pa_nil))) (pe_op op_rep (pe_lst (pa_cons (pe_bl) (pa_nil))) (pe_int)) (nomark _)) (pe_one (pe_callB call_isE (by rfl) T.n_isinstance (by decide +kernel) (pa_cons (pe_err0 T.e_ReachError rfl) (pa_cons (pe_bltn (v := .ty "ValueError") (u := .type "ValueError") (by rfl) T.n_ValueError (by decide +kernel) rfl) (pa_nil))))))))), ?_⟩
    refine ⟨_, rfl, a, ns, rfl, hS, hl, fun p H1 s1 hP => ?_⟩
    refine ⟨6, rfl, by decide, by decide, for_range (n := 6) (fun i σ H' => ∃ x2 x3 x4 x5 x6 x7 x8 x9 x10 x11 : Option V, σ = [some (.ref a), some (.ref p), x2, x3, x4, x5, x6, x7, x8, x9, x10, x11] ∧ Pen H' p (2 * i))
      ⟨_, _, _, _, _, _, _, _, _, _, rfl, hP⟩ ?_ ?_⟩
    · rintro i σ H2 hi ⟨x2, x3, x4, x5, x6, x7, x8, x9, x10, x11, rfl, hP2⟩
      refine ⟨_, rfl, p, _, rfl, hP2, by omega, fun v1 H3 w1 hP3 f3 => ?_⟩
      refine ⟨_, rfl, p, _, rfl, hP3, by omega, fun v2 H4 w2 hP4 f4 => ?_⟩
      have w1 : Shw K (core p H4) v1 := w1.same (core_up (core_fr f4))
      have w1 : Shw K H4 v1 := w1.same core_sub
      have w2 : Shw K H4 v2 := w2.same core_sub
      refine ⟨(by show 2 ≤ sizeLine; decide), fun tp htp => ⟨_, _, rfl, SqT.of upd_same, rfl, _, _, rfl, _, _, rfl, rfl, ?_⟩⟩
      have sT := same_new (o := .tup [v1, v2]) htp
      have w1 := w1.same sT
      have w2 := w2.same sT
      have hP5 := hP4.same sT
      generalize upd H4 tp (.tup [v1, v2]) = H at w1 w2 hP5 ⊢
      have w1o := w1
      have w2o := w2
      obtain ⟨d1, m1, b1⟩ := w1
      obtain ⟨f1, f2, f3⟩ := fine1 m1
      have t0 := Same.refl H
      have c0 : Ers T [("value", v1)] 0 H [] := Ers.nil
      refine ⟨_, rfl, rfl, fun a0 K0 s0 e0 => ?_⟩
      have c0 := Ers.snoc 0 0 c0 s0 (show ErAt K0 a0 (cls T 0) [("value", v1)] from e0) rfl (by decide)
      have t0 := t0.trans s0
      refine ⟨_, rfl, rfl, fun a1 K1 s1 e1 => ?_⟩
      have c0 := Ers.snoc 1 0 c0 s1 (show ErAt K1 a1 (cls T 0) [("value", v1)] from e1) rfl (by decide)
      have t0 := t0.trans s1
      refine ⟨_, rfl, rfl, fun a2 K2 s2 e2 => ?_⟩
      have c0 := Ers.snoc 2 1 c0 s2 (show ErAt K2 a2 (cls T 1) [("value", v1)] from e2) rfl (by decide)
      have t0 := t0.trans s2
      refine ⟨_, rfl, rfl, fun a3 K3 s3 e3 => ?_⟩
      have c0 := Ers.snoc 3 1 c0 s3 (show ErAt K3 a3 (cls T 1) [("value", v1)] from e3) rfl (by decide)
      have t0 := t0.trans s3
      refine ⟨(by show 4 ≤ sizeLine; decide), fun l_q1 h_q1 => ?_⟩
      have u_q1 := same_new (o := .lst [V.ref a0, V.ref a1, V.ref a2, V.ref a3]) h_q1
      have q1 : (upd K3 l_q1 (.lst [V.ref a0, V.ref a1, V.ref a2, V.ref a3])) l_q1 = some (.lst [V.ref a0, V.ref a1, V.ref a2, V.ref a3]) := upd_same
      have t0 := t0.trans u_q1
      have c0 := c0.same u_q1
      generalize upd K3 l_q1 (.lst [V.ref a0, V.ref a1, V.ref a2, V.ref a3]) = G1 at t0 c0 q1 ⊢
      have c1 : Ers T [("name", v1)] 13 G1 [] := Ers.nil
      refine ⟨_, rfl, rfl, fun a4 K4 s4 e4 => ?_⟩
      have c1 := Ers.snoc 0 13 c1 s4 (show ErAt K4 a4 (cls T 13) [("name", v1)] from e4) rfl (by decide)
      have t0 := t0.trans s4
      have c0 := c0.same s4
      have q1 := s4 _ _ q1
      refine ⟨_, rfl, rfl, fun a5 K5 s5 e5 => ?_⟩
      have c1 := Ers.snoc 1 13 c1 s5 (show ErAt K5 a5 (cls T 13) [("name", v1)] from e5) rfl (by decide)
      have t0 := t0.trans s5
      have c0 := c0.same s5
      have q1 := s5 _ _ q1
      refine ⟨(by show 2 ≤ sizeLine; decide), fun l_q2 h_q2 => ?_⟩
      have u_q2 := same_new (o := .lst [V.ref a4, V.ref a5]) h_q2
      have q2 : (upd K5 l_q2 (.lst [V.ref a4, V.ref a5])) l_q2 = some (.lst [V.ref a4, V.ref a5]) := upd_same
      have t0 := t0.trans u_q2
      have c0 := c0.same u_q2
      have q1 := u_q2 _ _ q1
      have c1 := c1.same u_q2
      generalize upd K5 l_q2 (.lst [V.ref a4, V.ref a5]) = G2 at t0 c0 q1 c1 q2 ⊢
      have c2 : Ers T [("word", v1)] 14 G2 [] := Ers.nil
      refine ⟨_, rfl, rfl, fun a6 K6 s6 e6 => ?_⟩
      have c2 := Ers.snoc 0 14 c2 s6 (show ErAt K6 a6 (cls T 14) [("word", v1)] from e6) rfl (by decide)
      have t0 := t0.trans s6
      have c0 := c0.same s6
      have q1 := s6 _ _ q1
      have c1 := c1.same s6
      have q2 := s6 _ _ q2
      refine ⟨_, rfl, rfl, fun a7 K7 s7 e7 => ?_⟩
      have c2 := Ers.snoc 1 14 c2 s7 (show ErAt K7 a7 (cls T 14) [("word", v1)] from e7) rfl (by decide)
      have t0 := t0.trans s7
      have c0 := c0.same s7
      have q1 := s7 _ _ q1
      have c1 := c1.same s7
      have q2 := s7 _ _ q2
      refine ⟨(by show 2 ≤ sizeLine; decide), fun l_q3 h_q3 => ?_⟩
      have u_q3 := same_new (o := .lst [V.ref a6, V.ref a7]) h_q3
      have q3 : (upd K7 l_q3 (.lst [V.ref a6, V.ref a7])) l_q3 = some (.lst [V.ref a6, V.ref a7]) := upd_same
      have t0 := t0.trans u_q3
      have c0 := c0.same u_q3
      have q1 := u_q3 _ _ q1
      have c1 := c1.same u_q3
      have q2 := u_q3 _ _ q2
      have c2 := c2.same u_q3
      generalize upd K7 l_q3 (.lst [V.ref a6, V.ref a7]) = G3 at t0 c0 q1 c1 q2 c2 q3 ⊢
      have b1 := b1.same t0
      refine ⟨_, _, rfl, ?_⟩
      have E0 := Ers.cls (n := 4) (hi := 2) c0 rfl (by decide) (by decide) (fld_value T)
      refine ⟨_, rfl, l_q1, rfl, ⟨_, SqL.of q1⟩, fun D0 hD0 => lc_list (K := K) (a := l_q1) (xs := List.map V.ref [a0, a1, a2, a3]) (fun i H' => Same G3 H' ∧ H' D0 = some (.lst [])) ⟨same_new hD0, upd_same⟩ (fun i H' _ e => SqL.of (e.1 _ _ q1)) ?_ ?_⟩
      · rintro i0 x0 H100 hi0 ⟨z0, hD0⟩
        refine ⟨rfl, ?_⟩
        obtain ⟨a, ha, rfl⟩ := map_get hi0
        obtain ⟨j, hj, ej, no⟩ := E0 i0 a ha
        obtain ⟨d, h1, h2⟩ := ej.same z0
        refine ⟨_, rfl, a, _, d, _, v1, rfl, h1, h2, cls_err T j hj, no, rfl, ?_⟩
        refine ⟨_, _, rfl, .one (b1.same z0), f1, f2, f3, ?_⟩
        refine ⟨_, rfl, _, _, rfl, .one (b1.same z0), f1, f2, f3, ?_⟩
        exact ⟨rfl, _, rfl, if_false_of (by simp) ⟨z0, hD0⟩⟩
      · rintro H6 ⟨z6, hD6⟩
        refine ⟨Nat.zero_le _, fun r0 hr0 => ⟨.list [], .list [], .lst (SqL.of (same_new hr0 _ _ hD6)) .nil, .lst (SqL.of upd_same) .nil, by decide +kernel, by decide +kernel, _, rfl, iteF ?_⟩⟩
        have z6 := z6.trans (same_new (o := .lst []) hr0)
        generalize upd H6 r0 (.lst []) = G4 at z6 ⊢
        refine ⟨_, rfl, _, rfl, v1, v2, rfl, w1o.same (t0.trans z6), w2o.same (t0.trans z6), fun H7 z7 => ?_⟩
        refine ⟨true, rfl, iteF ?_⟩
        have Z := z6.trans z7
        refine ⟨_, rfl, v1, rfl, fun lP11 as11 HP11 sP11 hq11 hl11 EP11 => ?_⟩
        have Y11 := Ers.cls (n := 12) (hi := 8) EP11 hl11 (by decide) (by decide) (fld_part T)
        have Z := Z.trans sP11
        have bb := b1.same Z
        refine ⟨lP11, rfl, ⟨_, SqL.of hq11⟩, fun D11 hD11 => lc_list (K := K) (a := lP11) (xs := as11.map V.ref) (fun i H' => Same HP11 H' ∧ H' D11 = some (.lst [])) ⟨same_new hD11, upd_same⟩ (fun i H' _ e => SqL.of (e.1 _ _ hq11)) ?_ ?_⟩
        · rintro i x H9 hi ⟨z9, hD9⟩
          refine ⟨rfl, ?_⟩
          obtain ⟨a, ha, rfl⟩ := map_get hi
          obtain ⟨j, hj, ej, no⟩ := Y11 i a ha
          obtain ⟨d, h1, h2⟩ := ej.same z9
          refine ⟨_, rfl, a, _, d, _, v1, rfl, h1, h2, cls_err T j hj, no, rfl, ?_⟩
          refine ⟨_, _, rfl, .one (bb.same z9), f1, f2, f3, ?_⟩
          refine ⟨_, rfl, _, _, rfl, .one (bb.same z9), f1, f2, f3, ?_⟩
          exact ⟨rfl, _, rfl, if_false_of (by simp) ⟨z9, hD9⟩⟩
        · rintro H211 ⟨z11, hE11⟩
          refine ⟨Nat.zero_le _, fun r11 hr11 => ⟨.list [], .list [], .lst (SqL.of (same_new hr11 _ _ hE11)) .nil, .lst (SqL.of upd_same) .nil, by decide +kernel, by decide +kernel, _, rfl, iteF ?_⟩⟩
          have Z := Z.trans (z11.trans (same_new (o := .lst []) hr11))
          generalize upd H211 r11 (.lst []) = G11 at Z ⊢
          refine ⟨_, rfl, v1, rfl, fun lP12 as12 HP12 sP12 hq12 hl12 EP12 => ?_⟩
          have Y12 := Ers.cls (n := 10) (hi := 13) EP12 hl12 (by decide) (by decide) (fld_at T)
          have Z := Z.trans sP12
          have bb := b1.same Z
          refine ⟨lP12, rfl, ⟨_, SqL.of hq12⟩, fun D12 hD12 => lc_list (K := K) (a := lP12) (xs := as12.map V.ref) (fun i H' => Same HP12 H' ∧ H' D12 = some (.lst [])) ⟨same_new hD12, upd_same⟩ (fun i H' _ e => SqL.of (e.1 _ _ hq12)) ?_ ?_⟩
          · rintro i x H9 hi ⟨z9, hD9⟩
            refine ⟨rfl, ?_⟩
            obtain ⟨a, ha, rfl⟩ := map_get hi
            obtain ⟨j, hj, ej, no⟩ := Y12 i a ha
            obtain ⟨d, h1, h2⟩ := ej.same z9
            refine ⟨_, rfl, a, _, d, _, v1, rfl, h1, h2, cls_err T j hj, no, rfl, ?_⟩
            refine ⟨_, _, rfl, .one (bb.same z9), f1, f2, f3, ?_⟩
            refine ⟨_, rfl, _, _, rfl, .one (bb.same z9), f1, f2, f3, ?_⟩
            exact ⟨rfl, _, rfl, if_false_of (by simp) ⟨z9, hD9⟩⟩
          · rintro H212 ⟨z12, hE12⟩
            refine ⟨Nat.zero_le _, fun r12 hr12 => ⟨.list [], .list [], .lst (SqL.of (same_new hr12 _ _ hE12)) .nil, .lst (SqL.of upd_same) .nil, by decide +kernel, by decide +kernel, _, rfl, iteF ?_⟩⟩
            have Z := Z.trans (z12.trans (same_new (o := .lst []) hr12))
            generalize upd H212 r12 (.lst []) = G12 at Z ⊢
            have E1 := Ers.cls (n := 2) (hi := 14) (c1.same Z) rfl (by decide) (by decide) (fld_name T)
            have bb := b1.same Z
            have q2z := Z _ _ q2
            refine ⟨_, rfl, l_q2, rfl, ⟨_, SqL.of q2z⟩, fun D13 hD13 => lc_list (K := K) (a := l_q2) (xs := List.map V.ref [a4, a5]) (fun i H' => Same G12 H' ∧ H' D13 = some (.lst [])) ⟨same_new hD13, upd_same⟩ (fun i H' _ e => SqL.of (e.1 _ _ q2z)) ?_ ?_⟩
            · rintro i x H9 hi ⟨z9, hD9⟩
              refine ⟨rfl, ?_⟩
              obtain ⟨a, ha, rfl⟩ := map_get hi
              obtain ⟨j, hj, ej, no⟩ := E1 i a ha
              obtain ⟨d, h1, h2⟩ := ej.same z9
              refine ⟨_, rfl, a, _, d, _, v1, rfl, h1, h2, cls_err T j hj, no, rfl, ?_⟩
              refine ⟨_, _, rfl, .one (bb.same z9), f1, f2, f3, ?_⟩
              refine ⟨_, rfl, _, _, rfl, .one (bb.same z9), f1, f2, f3, ?_⟩
              exact ⟨rfl, _, rfl, if_false_of (by simp) ⟨z9, hD9⟩⟩
            · rintro G13 ⟨z13, hE13⟩
              have Z := Z.trans z13
              have E2 := Ers.cls (n := 2) (hi := 15) (c2.same Z) rfl (by decide) (by decide) (fld_word T)
              have bb := b1.same Z
              have q3z := Z _ _ q3
              refine ⟨_, rfl, l_q3, rfl, ⟨_, SqL.of q3z⟩, fun D14 hD14 => lc_list (K := K) (a := l_q3) (xs := List.map V.ref [a6, a7]) (fun i H' => Same G13 H' ∧ H' D14 = some (.lst [])) ⟨same_new hD14, upd_same⟩ (fun i H' _ e => SqL.of (e.1 _ _ q3z)) ?_ ?_⟩
              · rintro i x H9 hi ⟨z9, hD9⟩
                refine ⟨rfl, ?_⟩
                obtain ⟨a, ha, rfl⟩ := map_get hi
                obtain ⟨j, hj, ej, no⟩ := E2 i a ha
                obtain ⟨d, h1, h2⟩ := ej.same z9
                refine ⟨_, rfl, a, _, d, _, v1, rfl, h1, h2, cls_err T j hj, no, rfl, ?_⟩
                refine ⟨_, _, rfl, .one (bb.same z9), f1, f2, f3, ?_⟩
                refine ⟨_, rfl, _, _, rfl, .one (bb.same z9), f1, f2, f3, ?_⟩
                exact ⟨rfl, _, rfl, if_false_of (by simp) ⟨z9, hD9⟩⟩
              · rintro G14 ⟨z14, hE14⟩
                have Z := Z.trans z14
                refine ⟨D13, D14, [], [], rfl, rfl, z14 _ _ hE13, hE14, Nat.zero_le _, fun r14 hr14 => ?_⟩
                have Z := Z.trans (same_new (o := .lst ([] ++ [])) hr14)
                have e14 : (upd G14 r14 (.lst ([] ++ []))) r14 = some (.lst []) := upd_same
                generalize upd G14 r14 (.lst ([] ++ [])) = G15 at Z e14 ⊢
                refine ⟨Nat.zero_le _, fun r15 hr15 => ⟨.list [], .list [], .lst (SqL.of (same_new hr15 _ _ e14)) .nil, .lst (SqL.of upd_same) .nil, by decide +kernel, by decide +kernel, _, rfl, iteF ?_⟩⟩
                have Z := Z.trans (same_new (o := .lst []) hr15)
                generalize upd G15 r15 (.lst []) = G16 at Z ⊢
                refine ⟨_, rfl, _, rfl, v1, rfl, fun lP as HP sP hqP hlP EP => ?_⟩
                have Z := Z.trans sP
                refine ⟨l_q1, lP, _, _, rfl, rfl, Z _ _ q1, hqP, (by rw [List.length_map, hlP]; show 16 ≤ sizeLine; decide), fun rA hrA => ?_⟩
                have uA := same_new (o := .lst ([V.ref a0, V.ref a1, V.ref a2, V.ref a3] ++ as.map V.ref)) hrA
                have Z := Z.trans uA
                have eA : (upd HP rA (.lst ([V.ref a0, V.ref a1, V.ref a2, V.ref a3] ++ as.map V.ref))) rA = some (.lst (([a0, a1, a2, a3] ++ as).map V.ref)) := upd_same
                have XA : Es T 0 (upd HP rA (.lst ([V.ref a0, V.ref a1, V.ref a2, V.ref a3] ++ as.map V.ref))) ([a0, a1, a2, a3] ++ as) := Es.app (m := 2) (Es.same Z c0.es) rfl (Es.same uA EP.es)
                have lA : ([a0, a1, a2, a3] ++ as).length = 16 := by rw [List.length_append, hlP]; rfl
                generalize [a0, a1, a2, a3] ++ as = asA at eA XA lA
                generalize upd HP rA (.lst ([V.ref a0, V.ref a1, V.ref a2, V.ref a3] ++ as.map V.ref)) = GA at Z eA XA ⊢
                refine ⟨_, rfl, v1, rfl, fun lQ bs HQ sQ hqQ hlQ EQ => ?_⟩
                have Z := Z.trans sQ
                have eA := sQ _ _ eA
                have XA := XA.same sQ
                refine ⟨rA, lQ, _, _, rfl, rfl, eA, hqQ, (by rw [List.length_map, lA, List.length_map, hlQ]; decide), fun rB hrB => ?_⟩
                have u := same_new (o := .lst (asA.map V.ref ++ bs.map V.ref)) hrB
                have Z := Z.trans u
                have eB : (upd HQ rB (.lst (asA.map V.ref ++ bs.map V.ref))) rB = some (.lst ((asA ++ bs).map V.ref)) := by rw [upd_same, List.map_append]
                have XB := Es.app (m := 8) (XA.same u) lA (Es.same u EQ.es)
                have lB : (asA ++ bs).length = 26 := by rw [List.length_append, lA, hlQ]
                generalize asA.map V.ref ++ bs.map V.ref = zz at Z eB XB ⊢
                generalize asA ++ bs = asB at eB XB lB
                generalize upd HQ rB (.lst zz) = GB at Z eB XB ⊢
                refine ⟨_, rfl, ?_⟩
                have kN : ([a4, a5] : List Addr).length = 2 := rfl
                have kL : ([a6, a7] : List Addr).length = 2 := rfl
                generalize hN : [a4, a5] = asN at kN
                have qN : GB l_q2 = some (.lst (asN.map V.ref)) := by rw [← hN]; exact Z _ _ q2
                have cN : Es T 13 GB asN := by rw [← hN]; exact Es.same Z c1.es
                refine ⟨rB, l_q2, _, _, rfl, rfl, eB, qN, (by rw [List.length_map, lB, List.length_map, kN]; decide), fun rC hrC => ?_⟩
                have u := same_new (o := .lst (asB.map V.ref ++ asN.map V.ref)) hrC
                have Z := Z.trans u
                have eC : (upd GB rC (.lst (asB.map V.ref ++ asN.map V.ref))) rC = some (.lst ((asB ++ asN).map V.ref)) := by rw [upd_same, List.map_append]
                have XC := Es.app (m := 13) (XB.same u) lB (Es.same u cN)
                have lC : (asB ++ asN).length = 28 := by rw [List.length_append, lB, kN]
                generalize asB.map V.ref ++ asN.map V.ref = zz at Z eC XC ⊢
                generalize asB ++ asN = asC at eC XC lC
                generalize upd GB rC (.lst zz) = GC at Z eC XC ⊢
                refine ⟨_, rfl, ?_⟩
                generalize hL : [a6, a7] = asL at kL
                have qL : GC l_q3 = some (.lst (asL.map V.ref)) := by rw [← hL]; exact Z _ _ q3
                have cL : Es T 14 GC asL := by rw [← hL]; exact Es.same Z c2.es
                refine ⟨rC, l_q3, _, _, rfl, rfl, eC, qL, (by rw [List.length_map, lC, List.length_map, kL]; decide), fun rD hrD => ?_⟩
                have u := same_new (o := .lst (asC.map V.ref ++ asL.map V.ref)) hrD
                have Z := Z.trans u
                have eD : (upd GC rD (.lst (asC.map V.ref ++ asL.map V.ref))) rD = some (.lst ((asC ++ asL).map V.ref)) := by rw [upd_same, List.map_append]
                have XD := Es.app (m := 14) (XC.same u) lC (Es.same u cL)
                have lD : (asC ++ asL).length = 30 := by rw [List.length_append, lC, kL]
                generalize asC.map V.ref ++ asL.map V.ref = zz at Z eD XD ⊢
                generalize asC ++ asL = asD at eD XD lD
                generalize upd GC rD (.lst zz) = GD at Z eD XD ⊢
                have y0 : Es T 15 GD [] := Es.nil
                refine ⟨_, rfl, _, rfl, rfl, fun b10 K10 s9 e9 => ?_⟩
                have y1 := Es.snoc 0 15 y0 s9 (.inl ⟨_, e9⟩) rfl (by decide)
                have Z := Z.trans s9
                have eD := s9 _ _ eD
                have XD := XD.same s9
                refine ⟨_, rfl, _, rfl, rfl, fun b11 K11 s9 e9 => ?_⟩
                have y2 := Es.snoc 1 15 y1 s9 (.inl ⟨_, e9⟩) rfl (by decide)
                have Z := Z.trans s9
                have eD := s9 _ _ eD
                have XD := XD.same s9
                refine ⟨(by show 2 ≤ sizeLine; decide), fun w1 hw1 => ?_⟩
                have u := same_new (o := .lst [V.ref b10, V.ref b11]) hw1
                have Z := Z.trans u
                have eD := u _ _ eD
                have XD := XD.same u
                have y1 : Es T 15 (upd K11 w1 (.lst [V.ref b10, V.ref b11])) [b10, b11] := y2.same u
                have q1 : (upd K11 w1 (.lst [V.ref b10, V.ref b11])) w1 = some (.lst ([b10, b11].map V.ref)) := upd_same
                have k1 : ([b10, b11] : List Addr).length = 2 := rfl
                generalize upd K11 w1 (.lst [V.ref b10, V.ref b11]) = J1 at Z eD XD y1 q1 ⊢
                generalize [b10, b11] = as1 at y1 q1 k1
                refine ⟨rD, w1, _, _, rfl, rfl, eD, q1, (by rw [List.length_map, lD, List.length_map, k1]; decide), fun rE hrE => ?_⟩
                have u := same_new (o := .lst (asD.map V.ref ++ as1.map V.ref)) hrE
                have Z := Z.trans u
                have eE : (upd J1 rE (.lst (asD.map V.ref ++ as1.map V.ref))) rE = some (.lst ((asD ++ as1).map V.ref)) := by rw [upd_same, List.map_append]
                have XE := Es.app (m := 15) (XD.same u) lD (Es.same u y1)
                have lE : (asD ++ as1).length = 32 := by rw [List.length_append, lD, k1]
                generalize asD.map V.ref ++ as1.map V.ref = zz at Z eE XE ⊢
                generalize asD ++ as1 = asE at eE XE lE
                generalize upd J1 rE (.lst zz) = GE at Z eE XE ⊢
                refine ⟨_, rfl, ?_⟩
                have y0 : Es T 16 GE [] := Es.nil
                refine ⟨_, rfl, _, rfl, rfl, fun b20 K20 s9 e9 => ?_⟩
                have y1 := Es.snoc 0 16 y0 s9 (.inl ⟨_, e9⟩) rfl (by decide)
                have Z := Z.trans s9
                have eE := s9 _ _ eE
                have XE := XE.same s9
                refine ⟨_, rfl, _, rfl, rfl, fun b21 K21 s9 e9 => ?_⟩
                have y2 := Es.snoc 1 16 y1 s9 (.inl ⟨_, e9⟩) rfl (by decide)
                have Z := Z.trans s9
                have eE := s9 _ _ eE
                have XE := XE.same s9
                intro b22 K22 s9 e9
                have y3 := Es.snoc 2 17 y2 s9 (.inr e9) rfl (by decide)
                have Z := Z.trans s9
                have eE := s9 _ _ eE
                have XE := XE.same s9
                intro b23 K23 s9 e9
                have y4 := Es.snoc 3 17 y3 s9 (.inr e9) rfl (by decide)
                have Z := Z.trans s9
                have eE := s9 _ _ eE
                have XE := XE.same s9
                intro b24 K24 s9 e9
                have y5 := Es.snoc 4 18 y4 s9 (.inr e9) rfl (by decide)
                have Z := Z.trans s9
                have eE := s9 _ _ eE
                have XE := XE.same s9
                intro b25 K25 s9 e9
                have y6 := Es.snoc 5 18 y5 s9 (.inr e9) rfl (by decide)
                have Z := Z.trans s9
                have eE := s9 _ _ eE
                have XE := XE.same s9
                intro b26 K26 s9 e9
                have y7 := Es.snoc 6 19 y6 s9 (.inr e9) rfl (by decide)
                have Z := Z.trans s9
                have eE := s9 _ _ eE
                have XE := XE.same s9
                intro b27 K27 s9 e9
                have y8 := Es.snoc 7 19 y7 s9 (.inr e9) rfl (by decide)
                have Z := Z.trans s9
                have eE := s9 _ _ eE
                have XE := XE.same s9
                refine ⟨(by show 8 ≤ sizeLine; decide), fun w2 hw2 => ?_⟩
                have u := same_new (o := .lst [V.ref b20, V.ref b21, V.ref b22, V.ref b23, V.ref b24, V.ref b25, V.ref b26, V.ref b27]) hw2
                have Z := Z.trans u
                have eE := u _ _ eE
                have XE := XE.same u
                have y2 : Es T 16 (upd K27 w2 (.lst [V.ref b20, V.ref b21, V.ref b22, V.ref b23, V.ref b24, V.ref b25, V.ref b26, V.ref b27])) [b20, b21, b22, b23, b24, b25, b26, b27] := y8.same u
                have q2 : (upd K27 w2 (.lst [V.ref b20, V.ref b21, V.ref b22, V.ref b23, V.ref b24, V.ref b25, V.ref b26, V.ref b27])) w2 = some (.lst ([b20, b21, b22, b23, b24, b25, b26, b27].map V.ref)) := upd_same
                have k2 : ([b20, b21, b22, b23, b24, b25, b26, b27] : List Addr).length = 8 := rfl
                generalize upd K27 w2 (.lst [V.ref b20, V.ref b21, V.ref b22, V.ref b23, V.ref b24, V.ref b25, V.ref b26, V.ref b27]) = J2 at Z eE XE y2 q2 ⊢
                generalize [b20, b21, b22, b23, b24, b25, b26, b27] = as2 at y2 q2 k2
                refine ⟨rE, w2, _, _, rfl, rfl, eE, q2, (by rw [List.length_map, lE, List.length_map, k2]; decide), fun rF hrF => ?_⟩
                have u := same_new (o := .lst (asE.map V.ref ++ as2.map V.ref)) hrF
                have Z := Z.trans u
                have eF : (upd J2 rF (.lst (asE.map V.ref ++ as2.map V.ref))) rF = some (.lst ((asE ++ as2).map V.ref)) := by rw [upd_same, List.map_append]
                have XF := Es.app (m := 16) (XE.same u) lE (Es.same u y2)
                have lF : (asE ++ as2).length = 40 := by rw [List.length_append, lE, k2]
                generalize asE.map V.ref ++ as2.map V.ref = zz at Z eF XF ⊢
                generalize asE ++ as2 = asF at eF XF lF
                generalize upd J2 rF (.lst zz) = GF at Z eF XF ⊢
                have hP6 := hP5.same (t0.trans Z)
                refine ⟨_, rfl, rF, _, rfl, SqL.of eF, for_it (walk_enum (K := K) (a := rF) (xs := asF.map V.ref)) (fun i' σ H' => ∃ x8 x10 x11 : Option V, σ = [some (.ref a), some (.ref p), some (.int (0 + (i : Int))), some v1, some v2, some (.ref l_q1), some (.ref l_q2), some (.ref l_q3), x8, some (.ref rF), x10, x11] ∧ Same GF H')
                  ⟨_, _, _, rfl, Same.refl _⟩ (fun _ _ H' _ h => ?_) ?_ ?_⟩
                · obtain ⟨_, _, _, _, s9⟩ := h
                  exact SqL.of (s9 _ _ eF)
                · rintro j x σ H' H'' hj ⟨x8, x10, x11, rfl, s5⟩ ⟨TT, y, z, rfl, hT, rfl, e1, e2⟩
                  cases e1
                  obtain ⟨ea, hea, rfl⟩ := map_get e2
                  have hj40 : j < 40 := by rw [List.length_map, lF] at hj; exact hj
                  refine ⟨_, _, rfl, SqT.of upd_same, rfl, _, _, rfl, _, _, rfl, rfl, ?_⟩
                  have s6 := s5.trans (same_new (o := .tup [V.int (j : Int), V.ref ea]) hT)
                  generalize upd H' TT (.tup [V.int (j : Int), V.ref ea]) = F0 at s6 ⊢
                  have er := (XF j ea hea).same s6
                  rw [Nat.zero_add] at er
                  have hj20 : j / 2 < 20 := by omega
                  refine ⟨_, rfl, ea, j / 2, rfl, by omega, er, fun pC HC sC hC => ?_⟩
                  have s7 := s6.trans sC
                  refine ⟨20, rfl, by decide, by decide, fun L hL => lc_range (lo := 0) (n := 20) (fun t H3 => H3 = upd HC L (.lst ((List.range t).map fun i => V.bl (decide (i = j / 2))))) rfl ?_ ?_⟩
                  · rintro t H3 ht rfl
                    refine ⟨rfl, ?_⟩
                    conv => whnf
                    refine ⟨_, rfl, _, rfl, _, _, rfl, rfl, wide_div (b := 10) (by decide) (by decide) (by decide) (by decide), rfl, _, upd_same, ?_, ?_⟩
                    · rw [List.length_map, List.length_range]
                      exact Nat.lt_trans ht (by decide)
                    · rw [upd_upd, List.range_succ, List.map_append, half_eq]
                      rfl
                  · rintro H3 rfl
                    have eR : (List.range 20).map (fun i => V.bl (decide (i = j / 2))) = (rowB (j / 2)).map V.bl := by unfold rowB; rw [List.map_map]; rfl
                    rw [eR]
                    obtain ⟨o1, o2⟩ := row_ok (show j / 2 < 21 by omega)
                    have s8 := s7.trans (same_new (o := .lst ((rowB (j / 2)).map V.bl)) hL)
                    have er := er.same (sC.trans (same_new (o := .lst ((rowB (j / 2)).map V.bl)) hL))
                    refine ⟨_, _, .lst (SqL.of (same_new hL _ _ hC)) (dp_bools _), .lst (SqL.of upd_same) (dp_bools _), o1, o1, _, rfl, if_false_of (by rw [o2]; rfl) ?_⟩
                    generalize upd HC L (.lst ((rowB (j / 2)).map V.bl)) = F1 at s8 er ⊢
                    obtain ⟨g1, g2, g3⟩ := T.kup (j / 2) (by omega)
                    have gE := cls_err T (j / 2) (by omega)
                    refine ⟨_, rfl, ea, _, _, _, true, rfl, er, gE, (fun u h => h), g1, _, rfl, iteF ?_⟩
                    refine ⟨_, rfl, ea, _, _, _, true, rfl, er, gE, (fun u h => h), g2, _, rfl, iteF ?_⟩
                    refine ⟨_, rfl, ea, _, _, _, false, rfl, er, gE, (fun u h => h), g3, _, rfl, iteF ?_⟩
                    exact ⟨_, _, _, rfl, s8⟩
                · rintro σ H9 ⟨x8, x10, x11, rfl, s5⟩
                  exact ⟨_, _, _, _, _, _, _, _, _, _, rfl, (hP6.same s5).mono (by omega)⟩
    · rintro σ H2 ⟨x2, x3, x4, x5, x6, x7, x8, x9, x10, x11, rfl, hP2⟩
      intro a0 K0 s0 e0
      refine ⟨a0, 20, rfl, by decide, .inr e0, fun pC HC sC hC => ?_⟩
      refine ⟨(by show 1 ≤ sizeLine; decide), fun l hl => ?_⟩
      have e20 : (List.replicate (20 : Int).toNat [V.bl false]).flatten = (rowB 20).map V.bl := by rfl
      refine ⟨l, 20, _, rfl, rfl, upd_same, by decide, by decide, (by show 20 ≤ sizeLine; decide), fun r hr => ?_⟩
      rw [e20]
      obtain ⟨o1, o2⟩ := row_ok (show 20 < 21 by decide)
      refine ⟨_, _, .lst (SqL.of (same_new hr _ _ (same_new hl _ _ hC))) (dp_bools (rowB 20)), .lst (SqL.of upd_same) (dp_bools (rowB 20)), o1, o1, _, rfl, if_true_of o2 ?_⟩
      intro a1 K1 s1 e1
      exact ⟨a1, _, _, _, true, rfl, .inr e1, T.e_ReachError.err, (fun u h => h), (T.kup 20 (by decide)).2.1, k _⟩

--CUT
structure Bare (K : PySem.W.Frag) (C : Addr) : Prop where
  own : PySem.W.excIn K C PySem.HandSPX.veTail "ValueError.__new__" = true
  err : ErrC K C
  tyC : PySem.W.typeIn K (.ref C) = some (.type "type")
  kC : PySem.W.keepIn K (.ref C) = true
theorem kit_of {K : PySem.W.Frag} {f : Nat → Addr} (h : ((List.range 21).all fun j => (List.range 20).all fun i => PySem.W.kitOne K (.ref (f j)) (.ref (f i)) == some (decide (i = j))) = true) :
    ∀ i j : Nat, i < 20 → j < 21 → PySem.W.kitOne K (.ref (f j)) (.ref (f i)) = some (decide (i = j)) := fun i j hi hj =>
  beq_iff_eq.mp (List.all_eq_true.mp (List.all_eq_true.mp h j (List.mem_range.mpr hj)) i (List.mem_range.mpr hi))
theorem kup_of {K : PySem.W.Frag} {f : Nat → Addr} {R : Addr} (h : ((List.range 21).all fun j => PySem.W.kitOne K (.ref (f j)) (.ref R) == some true && (PySem.W.kitOne K (.ref (f j)) (.type "ValueError") == some true && PySem.W.kitOne K (.ref (f j)) (.type "LookupError") == some false)) = true) :
    ∀ j : Nat, j < 21 → PySem.W.kitOne K (.ref (f j)) (.ref R) = some true ∧ PySem.W.kitOne K (.ref (f j)) (.type "ValueError") = some true ∧ PySem.W.kitOne K (.ref (f j)) (.type "LookupError") = some false := fun j hj => by
  have q := List.all_eq_true.mp h j (List.mem_range.mpr hj)
  simp only [Bool.and_eq_true] at q
  exact ⟨beq_iff_eq.mp q.1, beq_iff_eq.mp q.2.1, beq_iff_eq.mp q.2.2⟩


end
theorem all_mk {l : PySem.W.OpenLaw} {w : World} {K : PySem.W.Frag} {h : Heap} {mg : Str → Option Value} {fa : Addr} (X : K.In h) (G : h.Ns mainGlobals mg) (hfa : mg "law" = some (.ref fa)) (tabs : ∀ x ∈ ([] : List Str), TabOf K mg h x)
    {f_pen : Addr} {od_pen an_pen : Option Addr} {sl_pen : Array (Option Value)} {oc_pen kV_pen dc_pen pm_pen cd_pen ct_pen : Value}
    {f_draw : Addr} {od_draw an_draw : Option Addr} {sl_draw : Array (Option Value)} {oc_draw kV_draw dc_draw pm_draw cd_draw ct_draw : Value}
    {f_pick : Addr} {od_pick an_pick : Option Addr} {sl_pick : Array (Option Value)} {oc_pick kV_pick dc_pick pm_pick cd_pick ct_pick : Value}
    {f_thing : Addr} {od_thing an_thing : Option Addr} {sl_thing : Array (Option Value)} {oc_thing kV_thing dc_thing pm_thing cd_thing ct_thing : Value}
    {f_classes : Addr} {od_classes an_classes : Option Addr} {sl_classes : Array (Option Value)} {oc_classes kV_classes dc_classes pm_classes cd_classes ct_classes : Value}
    {f_parted : Addr} {od_parted an_parted : Option Addr} {sl_parted : Array (Option Value)} {oc_parted kV_parted dc_parted pm_parted cd_parted ct_parted : Value}
    {f_placed : Addr} {od_placed an_placed : Option Addr} {sl_placed : Array (Option Value)} {oc_placed kV_placed dc_placed pm_placed cd_placed ct_placed : Value}
    {f_two_right : Addr} {od_two_right an_two_right : Option Addr} {sl_two_right : Array (Option Value)} {oc_two_right kV_two_right dc_two_right pm_two_right cd_two_right ct_two_right : Value}
    {f_law : Addr} {od_law an_law : Option Addr} {sl_law : Array (Option Value)} {oc_law kV_law dc_law pm_law cd_law ct_law : Value}
    {f_BadNumber_init : Addr} {od_BadNumber_init an_BadNumber_init : Option Addr} {sl_BadNumber_init : Array (Option Value)} {oc_BadNumber_init kV_BadNumber_init dc_BadNumber_init pm_BadNumber_init cd_BadNumber_init ct_BadNumber_init : Value}
    {f_BadLot_init : Addr} {od_BadLot_init an_BadLot_init : Option Addr} {sl_BadLot_init : Array (Option Value)} {oc_BadLot_init kV_BadLot_init dc_BadLot_init pm_BadLot_init cd_BadLot_init ct_BadLot_init : Value}
    {f_BadWheel_init : Addr} {od_BadWheel_init an_BadWheel_init : Option Addr} {sl_BadWheel_init : Array (Option Value)} {oc_BadWheel_init kV_BadWheel_init dc_BadWheel_init pm_BadWheel_init cd_BadWheel_init ct_BadWheel_init : Value}
    {f_BadMeter_init : Addr} {od_BadMeter_init an_BadMeter_init : Option Addr} {sl_BadMeter_init : Array (Option Value)} {oc_BadMeter_init kV_BadMeter_init dc_BadMeter_init pm_BadMeter_init cd_BadMeter_init ct_BadMeter_init : Value}
    {f_BadMark_init : Addr} {od_BadMark_init an_BadMark_init : Option Addr} {sl_BadMark_init : Array (Option Value)} {oc_BadMark_init kV_BadMark_init dc_BadMark_init pm_BadMark_init cd_BadMark_init ct_BadMark_init : Value}
    {f_BadValue_init : Addr} {od_BadValue_init an_BadValue_init : Option Addr} {sl_BadValue_init : Array (Option Value)} {oc_BadValue_init kV_BadValue_init dc_BadValue_init pm_BadValue_init cd_BadValue_init ct_BadValue_init : Value}
    {f_BadGear_init : Addr} {od_BadGear_init an_BadGear_init : Option Addr} {sl_BadGear_init : Array (Option Value)} {oc_BadGear_init kV_BadGear_init dc_BadGear_init pm_BadGear_init cd_BadGear_init ct_BadGear_init : Value}
    {f_BadShelf_init : Addr} {od_BadShelf_init an_BadShelf_init : Option Addr} {sl_BadShelf_init : Array (Option Value)} {oc_BadShelf_init kV_BadShelf_init dc_BadShelf_init pm_BadShelf_init cd_BadShelf_init ct_BadShelf_init : Value}
    {f_BadLog_init : Addr} {od_BadLog_init an_BadLog_init : Option Addr} {sl_BadLog_init : Array (Option Value)} {oc_BadLog_init kV_BadLog_init dc_BadLog_init pm_BadLog_init cd_BadLog_init ct_BadLog_init : Value}
    {f_BadFollower_init : Addr} {od_BadFollower_init an_BadFollower_init : Option Addr} {sl_BadFollower_init : Array (Option Value)} {oc_BadFollower_init kV_BadFollower_init dc_BadFollower_init pm_BadFollower_init cd_BadFollower_init ct_BadFollower_init : Value}
    {f_BadDeed_init : Addr} {od_BadDeed_init an_BadDeed_init : Option Addr} {sl_BadDeed_init : Array (Option Value)} {oc_BadDeed_init kV_BadDeed_init dc_BadDeed_init pm_BadDeed_init cd_BadDeed_init ct_BadDeed_init : Value}
    {f_BadText_init : Addr} {od_BadText_init an_BadText_init : Option Addr} {sl_BadText_init : Array (Option Value)} {oc_BadText_init kV_BadText_init dc_BadText_init pm_BadText_init cd_BadText_init ct_BadText_init : Value}
    {f_BadLine_init : Addr} {od_BadLine_init an_BadLine_init : Option Addr} {sl_BadLine_init : Array (Option Value)} {oc_BadLine_init kV_BadLine_init dc_BadLine_init pm_BadLine_init cd_BadLine_init ct_BadLine_init : Value}
    {f_NoName_init : Addr} {od_NoName_init an_NoName_init : Option Addr} {sl_NoName_init : Array (Option Value)} {oc_NoName_init kV_NoName_init dc_NoName_init pm_NoName_init cd_NoName_init ct_NoName_init : Value}
    {f_NoPlace_init : Addr} {od_NoPlace_init an_NoPlace_init : Option Addr} {sl_NoPlace_init : Array (Option Value)} {oc_NoPlace_init kV_NoPlace_init dc_NoPlace_init pm_NoPlace_init cd_NoPlace_init ct_NoPlace_init : Value}
    {f_Unlike_init : Addr} {od_Unlike_init an_Unlike_init : Option Addr} {sl_Unlike_init : Array (Option Value)} {oc_Unlike_init kV_Unlike_init dc_Unlike_init pm_Unlike_init cd_Unlike_init ct_Unlike_init : Value}
    {f_TooMany_init : Addr} {od_TooMany_init an_TooMany_init : Option Addr} {sl_TooMany_init : Array (Option Value)} {oc_TooMany_init kV_TooMany_init dc_TooMany_init pm_TooMany_init cd_TooMany_init ct_TooMany_init : Value}
    {C_BadNumber C_BadValue C_BadLot C_BadWheel C_BadMeter C_BadShelf C_BadFollower C_Unlike C_BadMark C_BadGear C_BadLog C_BadDeed C_NoPlace C_NoName C_BadLine C_BadText C_TooMany C_NoMember C_Unfit C_Nothing C_ReachError : Addr}
    (a_pen : PySem.W.nsIn K mainGlobals "_law_pen" = some (some (.ref f_pen)))
    (l_pen : K.lookup f_pen = some ⟨oc_pen, od_pen, .func (PySem.W.fnOf "_law_pen" "_law_pen" (defArgs s_pen) (defBody s_pen) (defScope s_pen) .none kV_pen dc_pen pm_pen an_pen cd_pen ct_pen), sl_pen⟩)
    (c_pen : PySem.W.codeIn K cd_pen "_law_pen" = true)
    (k_pen : PySem.W.keepIn K (.ref f_pen) = true)
    (a_draw : PySem.W.nsIn K mainGlobals "_law_draw" = some (some (.ref f_draw)))
    (l_draw : K.lookup f_draw = some ⟨oc_draw, od_draw, .func (PySem.W.fnOf "_law_draw" "_law_draw" (defArgs s_draw) (defBody s_draw) (defScope s_draw) .none kV_draw dc_draw pm_draw an_draw cd_draw ct_draw), sl_draw⟩)
    (c_draw : PySem.W.codeIn K cd_draw "_law_draw" = true)
    (k_draw : PySem.W.keepIn K (.ref f_draw) = true)
    (a_pick : PySem.W.nsIn K mainGlobals "_law_pick" = some (some (.ref f_pick)))
    (l_pick : K.lookup f_pick = some ⟨oc_pick, od_pick, .func (PySem.W.fnOf "_law_pick" "_law_pick" (defArgs s_pick) (defBody s_pick) (defScope s_pick) .none kV_pick dc_pick pm_pick an_pick cd_pick ct_pick), sl_pick⟩)
    (c_pick : PySem.W.codeIn K cd_pick "_law_pick" = true)
    (k_pick : PySem.W.keepIn K (.ref f_pick) = true)
    (a_thing : PySem.W.nsIn K mainGlobals "_law_thing" = some (some (.ref f_thing)))
    (l_thing : K.lookup f_thing = some ⟨oc_thing, od_thing, .func (PySem.W.fnOf "_law_thing" "_law_thing" (defArgs s_thing) (defBody s_thing) (defScope s_thing) .none kV_thing dc_thing pm_thing an_thing cd_thing ct_thing), sl_thing⟩)
    (c_thing : PySem.W.codeIn K cd_thing "_law_thing" = true)
    (k_thing : PySem.W.keepIn K (.ref f_thing) = true)
    (a_classes : PySem.W.nsIn K mainGlobals "_law_classes" = some (some (.ref f_classes)))
    (l_classes : K.lookup f_classes = some ⟨oc_classes, od_classes, .func (PySem.W.fnOf "_law_classes" "_law_classes" (defArgs s_classes) (defBody s_classes) (defScope s_classes) .none kV_classes dc_classes pm_classes an_classes cd_classes ct_classes), sl_classes⟩)
    (c_classes : PySem.W.codeIn K cd_classes "_law_classes" = true)
    (k_classes : PySem.W.keepIn K (.ref f_classes) = true)
    (a_parted : PySem.W.nsIn K mainGlobals "_law_parted" = some (some (.ref f_parted)))
    (l_parted : K.lookup f_parted = some ⟨oc_parted, od_parted, .func (PySem.W.fnOf "_law_parted" "_law_parted" (defArgs s_parted) (defBody s_parted) (defScope s_parted) .none kV_parted dc_parted pm_parted an_parted cd_parted ct_parted), sl_parted⟩)
    (c_parted : PySem.W.codeIn K cd_parted "_law_parted" = true)
    (k_parted : PySem.W.keepIn K (.ref f_parted) = true)
    (a_placed : PySem.W.nsIn K mainGlobals "_law_placed" = some (some (.ref f_placed)))
    (l_placed : K.lookup f_placed = some ⟨oc_placed, od_placed, .func (PySem.W.fnOf "_law_placed" "_law_placed" (defArgs s_placed) (defBody s_placed) (defScope s_placed) .none kV_placed dc_placed pm_placed an_placed cd_placed ct_placed), sl_placed⟩)
    (c_placed : PySem.W.codeIn K cd_placed "_law_placed" = true)
    (k_placed : PySem.W.keepIn K (.ref f_placed) = true)
    (a_two_right : PySem.W.nsIn K mainGlobals "_law_two_right" = some (some (.ref f_two_right)))
    (l_two_right : K.lookup f_two_right = some ⟨oc_two_right, od_two_right, .func (PySem.W.fnOf "_law_two_right" "_law_two_right" (defArgs s_two_right) (defBody s_two_right) (defScope s_two_right) .none kV_two_right dc_two_right pm_two_right an_two_right cd_two_right ct_two_right), sl_two_right⟩)
    (c_two_right : PySem.W.codeIn K cd_two_right "_law_two_right" = true)
    (k_two_right : PySem.W.keepIn K (.ref f_two_right) = true)
    (a_law : PySem.W.nsIn K mainGlobals "law" = some (some (.ref f_law)))
    (l_law : K.lookup f_law = some ⟨oc_law, od_law, .func (PySem.W.fnOf "law" "law" (defArgs s_law) (defBody s_law) (defScope s_law) .none kV_law dc_law pm_law an_law cd_law ct_law), sl_law⟩)
    (c_law : PySem.W.codeIn K cd_law "law" = true)
    (k_law : PySem.W.keepIn K (.ref f_law) = true)
    (a_BadNumber_init : PySem.W.findIn K (.ref C_BadNumber) "__init__" = some (some (.ref f_BadNumber_init)))
    (l_BadNumber_init : K.lookup f_BadNumber_init = some ⟨oc_BadNumber_init, od_BadNumber_init, .func (PySem.W.fnOf "__init__" "BadNumber.__init__" (defArgs s_BadNumber_init) (defBody s_BadNumber_init) (defScope s_BadNumber_init) .none kV_BadNumber_init dc_BadNumber_init pm_BadNumber_init an_BadNumber_init cd_BadNumber_init ct_BadNumber_init), sl_BadNumber_init⟩)
    (c_BadNumber_init : PySem.W.codeIn K cd_BadNumber_init "BadNumber.__init__" = true)
    (k_BadNumber_init : PySem.W.keepIn K (.ref f_BadNumber_init) = true)
    (a_BadLot_init : PySem.W.findIn K (.ref C_BadLot) "__init__" = some (some (.ref f_BadLot_init)))
    (l_BadLot_init : K.lookup f_BadLot_init = some ⟨oc_BadLot_init, od_BadLot_init, .func (PySem.W.fnOf "__init__" "BadLot.__init__" (defArgs s_BadLot_init) (defBody s_BadLot_init) (defScope s_BadLot_init) .none kV_BadLot_init dc_BadLot_init pm_BadLot_init an_BadLot_init cd_BadLot_init ct_BadLot_init), sl_BadLot_init⟩)
    (c_BadLot_init : PySem.W.codeIn K cd_BadLot_init "BadLot.__init__" = true)
    (k_BadLot_init : PySem.W.keepIn K (.ref f_BadLot_init) = true)
    (a_BadWheel_init : PySem.W.findIn K (.ref C_BadWheel) "__init__" = some (some (.ref f_BadWheel_init)))
    (l_BadWheel_init : K.lookup f_BadWheel_init = some ⟨oc_BadWheel_init, od_BadWheel_init, .func (PySem.W.fnOf "__init__" "BadWheel.__init__" (defArgs s_BadWheel_init) (defBody s_BadWheel_init) (defScope s_BadWheel_init) .none kV_BadWheel_init dc_BadWheel_init pm_BadWheel_init an_BadWheel_init cd_BadWheel_init ct_BadWheel_init), sl_BadWheel_init⟩)
    (c_BadWheel_init : PySem.W.codeIn K cd_BadWheel_init "BadWheel.__init__" = true)
    (k_BadWheel_init : PySem.W.keepIn K (.ref f_BadWheel_init) = true)
    (a_BadMeter_init : PySem.W.findIn K (.ref C_BadMeter) "__init__" = some (some (.ref f_BadMeter_init)))
    (l_BadMeter_init : K.lookup f_BadMeter_init = some ⟨oc_BadMeter_init, od_BadMeter_init, .func (PySem.W.fnOf "__init__" "BadMeter.__init__" (defArgs s_BadMeter_init) (defBody s_BadMeter_init) (defScope s_BadMeter_init) .none kV_BadMeter_init dc_BadMeter_init pm_BadMeter_init an_BadMeter_init cd_BadMeter_init ct_BadMeter_init), sl_BadMeter_init⟩)
    (c_BadMeter_init : PySem.W.codeIn K cd_BadMeter_init "BadMeter.__init__" = true)
    (k_BadMeter_init : PySem.W.keepIn K (.ref f_BadMeter_init) = true)
    (a_BadMark_init : PySem.W.findIn K (.ref C_BadMark) "__init__" = some (some (.ref f_BadMark_init)))
    (l_BadMark_init : K.lookup f_BadMark_init = some ⟨oc_BadMark_init, od_BadMark_init, .func (PySem.W.fnOf "__init__" "BadMark.__init__" (defArgs s_BadMark_init) (defBody s_BadMark_init) (defScope s_BadMark_init) .none kV_BadMark_init dc_BadMark_init pm_BadMark_init an_BadMark_init cd_BadMark_init ct_BadMark_init), sl_BadMark_init⟩)
    (c_BadMark_init : PySem.W.codeIn K cd_BadMark_init "BadMark.__init__" = true)
    (k_BadMark_init : PySem.W.keepIn K (.ref f_BadMark_init) = true)
    (a_BadValue_init : PySem.W.findIn K (.ref C_BadValue) "__init__" = some (some (.ref f_BadValue_init)))
    (l_BadValue_init : K.lookup f_BadValue_init = some ⟨oc_BadValue_init, od_BadValue_init, .func (PySem.W.fnOf "__init__" "BadValue.__init__" (defArgs s_BadValue_init) (defBody s_BadValue_init) (defScope s_BadValue_init) .none kV_BadValue_init dc_BadValue_init pm_BadValue_init an_BadValue_init cd_BadValue_init ct_BadValue_init), sl_BadValue_init⟩)
    (c_BadValue_init : PySem.W.codeIn K cd_BadValue_init "BadValue.__init__" = true)
    (k_BadValue_init : PySem.W.keepIn K (.ref f_BadValue_init) = true)
    (a_BadGear_init : PySem.W.findIn K (.ref C_BadGear) "__init__" = some (some (.ref f_BadGear_init)))
    (l_BadGear_init : K.lookup f_BadGear_init = some ⟨oc_BadGear_init, od_BadGear_init, .func (PySem.W.fnOf "__init__" "BadGear.__init__" (defArgs s_BadGear_init) (defBody s_BadGear_init) (defScope s_BadGear_init) .none kV_BadGear_init dc_BadGear_init pm_BadGear_init an_BadGear_init cd_BadGear_init ct_BadGear_init), sl_BadGear_init⟩)
    (c_BadGear_init : PySem.W.codeIn K cd_BadGear_init "BadGear.__init__" = true)
    (k_BadGear_init : PySem.W.keepIn K (.ref f_BadGear_init) = true)
    (a_BadShelf_init : PySem.W.findIn K (.ref C_BadShelf) "__init__" = some (some (.ref f_BadShelf_init)))
    (l_BadShelf_init : K.lookup f_BadShelf_init = some ⟨oc_BadShelf_init, od_BadShelf_init, .func (PySem.W.fnOf "__init__" "BadShelf.__init__" (defArgs s_BadShelf_init) (defBody s_BadShelf_init) (defScope s_BadShelf_init) .none kV_BadShelf_init dc_BadShelf_init pm_BadShelf_init an_BadShelf_init cd_BadShelf_init ct_BadShelf_init), sl_BadShelf_init⟩)
    (c_BadShelf_init : PySem.W.codeIn K cd_BadShelf_init "BadShelf.__init__" = true)
    (k_BadShelf_init : PySem.W.keepIn K (.ref f_BadShelf_init) = true)
    (a_BadLog_init : PySem.W.findIn K (.ref C_BadLog) "__init__" = some (some (.ref f_BadLog_init)))
    (l_BadLog_init : K.lookup f_BadLog_init = some ⟨oc_BadLog_init, od_BadLog_init, .func (PySem.W.fnOf "__init__" "BadLog.__init__" (defArgs s_BadLog_init) (defBody s_BadLog_init) (defScope s_BadLog_init) .none kV_BadLog_init dc_BadLog_init pm_BadLog_init an_BadLog_init cd_BadLog_init ct_BadLog_init), sl_BadLog_init⟩)
    (c_BadLog_init : PySem.W.codeIn K cd_BadLog_init "BadLog.__init__" = true)
    (k_BadLog_init : PySem.W.keepIn K (.ref f_BadLog_init) = true)
    (a_BadFollower_init : PySem.W.findIn K (.ref C_BadFollower) "__init__" = some (some (.ref f_BadFollower_init)))
    (l_BadFollower_init : K.lookup f_BadFollower_init = some ⟨oc_BadFollower_init, od_BadFollower_init, .func (PySem.W.fnOf "__init__" "BadFollower.__init__" (defArgs s_BadFollower_init) (defBody s_BadFollower_init) (defScope s_BadFollower_init) .none kV_BadFollower_init dc_BadFollower_init pm_BadFollower_init an_BadFollower_init cd_BadFollower_init ct_BadFollower_init), sl_BadFollower_init⟩)
    (c_BadFollower_init : PySem.W.codeIn K cd_BadFollower_init "BadFollower.__init__" = true)
    (k_BadFollower_init : PySem.W.keepIn K (.ref f_BadFollower_init) = true)
    (a_BadDeed_init : PySem.W.findIn K (.ref C_BadDeed) "__init__" = some (some (.ref f_BadDeed_init)))
    (l_BadDeed_init : K.lookup f_BadDeed_init = some ⟨oc_BadDeed_init, od_BadDeed_init, .func (PySem.W.fnOf "__init__" "BadDeed.__init__" (defArgs s_BadDeed_init) (defBody s_BadDeed_init) (defScope s_BadDeed_init) .none kV_BadDeed_init dc_BadDeed_init pm_BadDeed_init an_BadDeed_init cd_BadDeed_init ct_BadDeed_init), sl_BadDeed_init⟩)
    (c_BadDeed_init : PySem.W.codeIn K cd_BadDeed_init "BadDeed.__init__" = true)
    (k_BadDeed_init : PySem.W.keepIn K (.ref f_BadDeed_init) = true)
    (a_BadText_init : PySem.W.findIn K (.ref C_BadText) "__init__" = some (some (.ref f_BadText_init)))
    (l_BadText_init : K.lookup f_BadText_init = some ⟨oc_BadText_init, od_BadText_init, .func (PySem.W.fnOf "__init__" "BadText.__init__" (defArgs s_BadText_init) (defBody s_BadText_init) (defScope s_BadText_init) .none kV_BadText_init dc_BadText_init pm_BadText_init an_BadText_init cd_BadText_init ct_BadText_init), sl_BadText_init⟩)
    (c_BadText_init : PySem.W.codeIn K cd_BadText_init "BadText.__init__" = true)
    (k_BadText_init : PySem.W.keepIn K (.ref f_BadText_init) = true)
    (a_BadLine_init : PySem.W.findIn K (.ref C_BadLine) "__init__" = some (some (.ref f_BadLine_init)))
    (l_BadLine_init : K.lookup f_BadLine_init = some ⟨oc_BadLine_init, od_BadLine_init, .func (PySem.W.fnOf "__init__" "BadLine.__init__" (defArgs s_BadLine_init) (defBody s_BadLine_init) (defScope s_BadLine_init) .none kV_BadLine_init dc_BadLine_init pm_BadLine_init an_BadLine_init cd_BadLine_init ct_BadLine_init), sl_BadLine_init⟩)
    (c_BadLine_init : PySem.W.codeIn K cd_BadLine_init "BadLine.__init__" = true)
    (k_BadLine_init : PySem.W.keepIn K (.ref f_BadLine_init) = true)
    (a_NoName_init : PySem.W.findIn K (.ref C_NoName) "__init__" = some (some (.ref f_NoName_init)))
    (l_NoName_init : K.lookup f_NoName_init = some ⟨oc_NoName_init, od_NoName_init, .func (PySem.W.fnOf "__init__" "NoName.__init__" (defArgs s_NoName_init) (defBody s_NoName_init) (defScope s_NoName_init) .none kV_NoName_init dc_NoName_init pm_NoName_init an_NoName_init cd_NoName_init ct_NoName_init), sl_NoName_init⟩)
    (c_NoName_init : PySem.W.codeIn K cd_NoName_init "NoName.__init__" = true)
    (k_NoName_init : PySem.W.keepIn K (.ref f_NoName_init) = true)
    (a_NoPlace_init : PySem.W.findIn K (.ref C_NoPlace) "__init__" = some (some (.ref f_NoPlace_init)))
    (l_NoPlace_init : K.lookup f_NoPlace_init = some ⟨oc_NoPlace_init, od_NoPlace_init, .func (PySem.W.fnOf "__init__" "NoPlace.__init__" (defArgs s_NoPlace_init) (defBody s_NoPlace_init) (defScope s_NoPlace_init) .none kV_NoPlace_init dc_NoPlace_init pm_NoPlace_init an_NoPlace_init cd_NoPlace_init ct_NoPlace_init), sl_NoPlace_init⟩)
    (c_NoPlace_init : PySem.W.codeIn K cd_NoPlace_init "NoPlace.__init__" = true)
    (k_NoPlace_init : PySem.W.keepIn K (.ref f_NoPlace_init) = true)
    (a_Unlike_init : PySem.W.findIn K (.ref C_Unlike) "__init__" = some (some (.ref f_Unlike_init)))
    (l_Unlike_init : K.lookup f_Unlike_init = some ⟨oc_Unlike_init, od_Unlike_init, .func (PySem.W.fnOf "__init__" "Unlike.__init__" (defArgs s_Unlike_init) (defBody s_Unlike_init) (defScope s_Unlike_init) .none kV_Unlike_init dc_Unlike_init pm_Unlike_init an_Unlike_init cd_Unlike_init ct_Unlike_init), sl_Unlike_init⟩)
    (c_Unlike_init : PySem.W.codeIn K cd_Unlike_init "Unlike.__init__" = true)
    (k_Unlike_init : PySem.W.keepIn K (.ref f_Unlike_init) = true)
    (a_TooMany_init : PySem.W.findIn K (.ref C_TooMany) "__init__" = some (some (.ref f_TooMany_init)))
    (l_TooMany_init : K.lookup f_TooMany_init = some ⟨oc_TooMany_init, od_TooMany_init, .func (PySem.W.fnOf "__init__" "TooMany.__init__" (defArgs s_TooMany_init) (defBody s_TooMany_init) (defScope s_TooMany_init) .none kV_TooMany_init dc_TooMany_init pm_TooMany_init an_TooMany_init cd_TooMany_init ct_TooMany_init), sl_TooMany_init⟩)
    (c_TooMany_init : PySem.W.codeIn K cd_TooMany_init "TooMany.__init__" = true)
    (k_TooMany_init : PySem.W.keepIn K (.ref f_TooMany_init) = true)
    (z_LookupError : PySem.W.nsIn K mainGlobals "LookupError" = some none)
    (z_ValueError : PySem.W.nsIn K mainGlobals "ValueError" = some none)
    (z_abs : PySem.W.nsIn K mainGlobals "abs" = some none)
    (z_enumerate : PySem.W.nsIn K mainGlobals "enumerate" = some none)
    (z_int : PySem.W.nsIn K mainGlobals "int" = some none)
    (z_isinstance : PySem.W.nsIn K mainGlobals "isinstance" = some none)
    (z_len : PySem.W.nsIn K mainGlobals "len" = some none)
    (z_list : PySem.W.nsIn K mainGlobals "list" = some none)
    (z_range : PySem.W.nsIn K mainGlobals "range" = some none)
    (z_repr : PySem.W.nsIn K mainGlobals "repr" = some none)
    (x_BadNumber : PySem.W.nsIn K mainGlobals "BadNumber" = some (some (.ref C_BadNumber)))
    (y_BadNumber : Cls K C_BadNumber)
    (t_BadNumber : PySem.W.typeIn K (.ref f_BadNumber_init) = some (.type "function"))
    (n_BadNumber_value : PySem.W.findIn K (.ref C_BadNumber) "value" = some Option.none)
    (x_BadValue : PySem.W.nsIn K mainGlobals "BadValue" = some (some (.ref C_BadValue)))
    (y_BadValue : Cls K C_BadValue)
    (t_BadValue : PySem.W.typeIn K (.ref f_BadValue_init) = some (.type "function"))
    (n_BadValue_value : PySem.W.findIn K (.ref C_BadValue) "value" = some Option.none)
    (x_BadLot : PySem.W.nsIn K mainGlobals "BadLot" = some (some (.ref C_BadLot)))
    (y_BadLot : Cls K C_BadLot)
    (t_BadLot : PySem.W.typeIn K (.ref f_BadLot_init) = some (.type "function"))
    (n_BadLot_part : PySem.W.findIn K (.ref C_BadLot) "part" = some Option.none)
    (x_BadWheel : PySem.W.nsIn K mainGlobals "BadWheel" = some (some (.ref C_BadWheel)))
    (y_BadWheel : Cls K C_BadWheel)
    (t_BadWheel : PySem.W.typeIn K (.ref f_BadWheel_init) = some (.type "function"))
    (n_BadWheel_part : PySem.W.findIn K (.ref C_BadWheel) "part" = some Option.none)
    (x_BadMeter : PySem.W.nsIn K mainGlobals "BadMeter" = some (some (.ref C_BadMeter)))
    (y_BadMeter : Cls K C_BadMeter)
    (t_BadMeter : PySem.W.typeIn K (.ref f_BadMeter_init) = some (.type "function"))
    (n_BadMeter_part : PySem.W.findIn K (.ref C_BadMeter) "part" = some Option.none)
    (x_BadShelf : PySem.W.nsIn K mainGlobals "BadShelf" = some (some (.ref C_BadShelf)))
    (y_BadShelf : Cls K C_BadShelf)
    (t_BadShelf : PySem.W.typeIn K (.ref f_BadShelf_init) = some (.type "function"))
    (n_BadShelf_part : PySem.W.findIn K (.ref C_BadShelf) "part" = some Option.none)
    (x_BadFollower : PySem.W.nsIn K mainGlobals "BadFollower" = some (some (.ref C_BadFollower)))
    (y_BadFollower : Cls K C_BadFollower)
    (t_BadFollower : PySem.W.typeIn K (.ref f_BadFollower_init) = some (.type "function"))
    (n_BadFollower_part : PySem.W.findIn K (.ref C_BadFollower) "part" = some Option.none)
    (x_Unlike : PySem.W.nsIn K mainGlobals "Unlike" = some (some (.ref C_Unlike)))
    (y_Unlike : Cls K C_Unlike)
    (t_Unlike : PySem.W.typeIn K (.ref f_Unlike_init) = some (.type "function"))
    (n_Unlike_part : PySem.W.findIn K (.ref C_Unlike) "part" = some Option.none)
    (x_BadMark : PySem.W.nsIn K mainGlobals "BadMark" = some (some (.ref C_BadMark)))
    (y_BadMark : Cls K C_BadMark)
    (t_BadMark : PySem.W.typeIn K (.ref f_BadMark_init) = some (.type "function"))
    (n_BadMark_at : PySem.W.findIn K (.ref C_BadMark) "at" = some Option.none)
    (x_BadGear : PySem.W.nsIn K mainGlobals "BadGear" = some (some (.ref C_BadGear)))
    (y_BadGear : Cls K C_BadGear)
    (t_BadGear : PySem.W.typeIn K (.ref f_BadGear_init) = some (.type "function"))
    (n_BadGear_at : PySem.W.findIn K (.ref C_BadGear) "at" = some Option.none)
    (x_BadLog : PySem.W.nsIn K mainGlobals "BadLog" = some (some (.ref C_BadLog)))
    (y_BadLog : Cls K C_BadLog)
    (t_BadLog : PySem.W.typeIn K (.ref f_BadLog_init) = some (.type "function"))
    (n_BadLog_at : PySem.W.findIn K (.ref C_BadLog) "at" = some Option.none)
    (x_BadDeed : PySem.W.nsIn K mainGlobals "BadDeed" = some (some (.ref C_BadDeed)))
    (y_BadDeed : Cls K C_BadDeed)
    (t_BadDeed : PySem.W.typeIn K (.ref f_BadDeed_init) = some (.type "function"))
    (n_BadDeed_at : PySem.W.findIn K (.ref C_BadDeed) "at" = some Option.none)
    (x_NoPlace : PySem.W.nsIn K mainGlobals "NoPlace" = some (some (.ref C_NoPlace)))
    (y_NoPlace : Cls K C_NoPlace)
    (t_NoPlace : PySem.W.typeIn K (.ref f_NoPlace_init) = some (.type "function"))
    (n_NoPlace_at : PySem.W.findIn K (.ref C_NoPlace) "at" = some Option.none)
    (x_NoName : PySem.W.nsIn K mainGlobals "NoName" = some (some (.ref C_NoName)))
    (y_NoName : Cls K C_NoName)
    (t_NoName : PySem.W.typeIn K (.ref f_NoName_init) = some (.type "function"))
    (n_NoName_name : PySem.W.findIn K (.ref C_NoName) "name" = some Option.none)
    (x_BadLine : PySem.W.nsIn K mainGlobals "BadLine" = some (some (.ref C_BadLine)))
    (y_BadLine : Cls K C_BadLine)
    (t_BadLine : PySem.W.typeIn K (.ref f_BadLine_init) = some (.type "function"))
    (n_BadLine_word : PySem.W.findIn K (.ref C_BadLine) "word" = some Option.none)
    (x_BadText : PySem.W.nsIn K mainGlobals "BadText" = some (some (.ref C_BadText)))
    (y_BadText : Cls K C_BadText)
    (t_BadText : PySem.W.typeIn K (.ref f_BadText_init) = some (.type "function"))
    (n_BadText_line : PySem.W.findIn K (.ref C_BadText) "line" = some Option.none)
    (n_BadText_word : PySem.W.findIn K (.ref C_BadText) "word" = some Option.none)
    (x_TooMany : PySem.W.nsIn K mainGlobals "TooMany" = some (some (.ref C_TooMany)))
    (y_TooMany : Cls K C_TooMany)
    (t_TooMany : PySem.W.typeIn K (.ref f_TooMany_init) = some (.type "function"))
    (n_TooMany_what : PySem.W.findIn K (.ref C_TooMany) "what" = some Option.none)
    (n_TooMany_most : PySem.W.findIn K (.ref C_TooMany) "most" = some Option.none)
    (x_NoMember : PySem.W.nsIn K mainGlobals "NoMember" = some (some (.ref C_NoMember)))
    (y_NoMember : Bare K C_NoMember)
    (x_Unfit : PySem.W.nsIn K mainGlobals "Unfit" = some (some (.ref C_Unfit)))
    (y_Unfit : Bare K C_Unfit)
    (x_Nothing : PySem.W.nsIn K mainGlobals "Nothing" = some (some (.ref C_Nothing)))
    (y_Nothing : Bare K C_Nothing)
    (x_ReachError : PySem.W.nsIn K mainGlobals "ReachError" = some (some (.ref C_ReachError)))
    (y_ReachError : Bare K C_ReachError)
    (w_kit : ((List.range 21).all fun j => (List.range 20).all fun i => PySem.W.kitOne K (.ref ([C_BadNumber, C_BadValue, C_BadLot, C_BadWheel, C_BadMeter, C_BadShelf, C_BadFollower, C_Unlike, C_BadMark, C_BadGear, C_BadLog, C_BadDeed, C_NoPlace, C_NoName, C_BadLine, C_BadText, C_TooMany, C_NoMember, C_Unfit, C_Nothing].getD j C_ReachError)) (.ref ([C_BadNumber, C_BadValue, C_BadLot, C_BadWheel, C_BadMeter, C_BadShelf, C_BadFollower, C_Unlike, C_BadMark, C_BadGear, C_BadLog, C_BadDeed, C_NoPlace, C_NoName, C_BadLine, C_BadText, C_TooMany, C_NoMember, C_Unfit, C_Nothing].getD i C_ReachError)) == some (decide (i = j))) = true)
    (w_up : ((List.range 21).all fun j => PySem.W.kitOne K (.ref ([C_BadNumber, C_BadValue, C_BadLot, C_BadWheel, C_BadMeter, C_BadShelf, C_BadFollower, C_Unlike, C_BadMark, C_BadGear, C_BadLog, C_BadDeed, C_NoPlace, C_NoName, C_BadLine, C_BadText, C_TooMany, C_NoMember, C_Unfit, C_Nothing].getD j C_ReachError)) (.ref C_ReachError) == some true && (PySem.W.kitOne K (.ref ([C_BadNumber, C_BadValue, C_BadLot, C_BadWheel, C_BadMeter, C_BadShelf, C_BadFollower, C_Unlike, C_BadMark, C_BadGear, C_BadLog, C_BadDeed, C_NoPlace, C_NoName, C_BadLine, C_BadText, C_TooMany, C_NoMember, C_Unfit, C_Nothing].getD j C_ReachError)) (.type "ValueError") == some true && PySem.W.kitOne K (.ref ([C_BadNumber, C_BadValue, C_BadLot, C_BadWheel, C_BadMeter, C_BadShelf, C_BadFollower, C_Unlike, C_BadMark, C_BadGear, C_BadLog, C_BadDeed, C_NoPlace, C_NoName, C_BadLine, C_BadText, C_TooMany, C_NoMember, C_Unfit, C_Nothing].getD j C_ReachError)) (.type "LookupError") == some false)) = true) :
    LawG l w K 6 mg fa h := by
  have e := hfa.symm.trans (PySem.W.mg_of X G a_law)
  cases e
  let T : Txt K mg := { a_pen := f_pen, fd_pen := _, F_pen := fun_mk (st := s_pen) l_pen c_pen k_pen, m_pen := PySem.W.mg_of X G a_pen, a_draw := f_draw, fd_draw := _, F_draw := fun_mk (st := s_draw) l_draw c_draw k_draw, m_draw := PySem.W.mg_of X G a_draw, a_pick := f_pick, fd_pick := _, F_pick := fun_mk (st := s_pick) l_pick c_pick k_pick, m_pick := PySem.W.mg_of X G a_pick, a_thing := f_thing, fd_thing := _, F_thing := fun_mk (st := s_thing) l_thing c_thing k_thing, m_thing := PySem.W.mg_of X G a_thing, a_classes := f_classes, fd_classes := _, F_classes := fun_mk (st := s_classes) l_classes c_classes k_classes, m_classes := PySem.W.mg_of X G a_classes, a_parted := f_parted, fd_parted := _, F_parted := fun_mk (st := s_parted) l_parted c_parted k_parted, m_parted := PySem.W.mg_of X G a_parted, a_placed := f_placed, fd_placed := _, F_placed := fun_mk (st := s_placed) l_placed c_placed k_placed, m_placed := PySem.W.mg_of X G a_placed, a_two_right := f_two_right, fd_two_right := _, F_two_right := fun_mk (st := s_two_right) l_two_right c_two_right k_two_right, m_two_right := PySem.W.mg_of X G a_two_right, a_law := fa, fd_law := _, F_law := fun_mk (st := s_law) l_law c_law k_law, m_law := PySem.W.mg_of X G a_law, a_BadNumber_init := f_BadNumber_init, fd_BadNumber_init := _, F_BadNumber_init := fun_mk (st := s_BadNumber_init) l_BadNumber_init c_BadNumber_init k_BadNumber_init, a_BadLot_init := f_BadLot_init, fd_BadLot_init := _, F_BadLot_init := fun_mk (st := s_BadLot_init) l_BadLot_init c_BadLot_init k_BadLot_init, a_BadWheel_init := f_BadWheel_init, fd_BadWheel_init := _, F_BadWheel_init := fun_mk (st := s_BadWheel_init) l_BadWheel_init c_BadWheel_init k_BadWheel_init, a_BadMeter_init := f_BadMeter_init, fd_BadMeter_init := _, F_BadMeter_init := fun_mk (st := s_BadMeter_init) l_BadMeter_init c_BadMeter_init k_BadMeter_init, a_BadMark_init := f_BadMark_init, fd_BadMark_init := _, F_BadMark_init := fun_mk (st := s_BadMark_init) l_BadMark_init c_BadMark_init k_BadMark_init, a_BadValue_init := f_BadValue_init, fd_BadValue_init := _, F_BadValue_init := fun_mk (st := s_BadValue_init) l_BadValue_init c_BadValue_init k_BadValue_init, a_BadGear_init := f_BadGear_init, fd_BadGear_init := _, F_BadGear_init := fun_mk (st := s_BadGear_init) l_BadGear_init c_BadGear_init k_BadGear_init, a_BadShelf_init := f_BadShelf_init, fd_BadShelf_init := _, F_BadShelf_init := fun_mk (st := s_BadShelf_init) l_BadShelf_init c_BadShelf_init k_BadShelf_init, a_BadLog_init := f_BadLog_init, fd_BadLog_init := _, F_BadLog_init := fun_mk (st := s_BadLog_init) l_BadLog_init c_BadLog_init k_BadLog_init, a_BadFollower_init := f_BadFollower_init, fd_BadFollower_init := _, F_BadFollower_init := fun_mk (st := s_BadFollower_init) l_BadFollower_init c_BadFollower_init k_BadFollower_init, a_BadDeed_init := f_BadDeed_init, fd_BadDeed_init := _, F_BadDeed_init := fun_mk (st := s_BadDeed_init) l_BadDeed_init c_BadDeed_init k_BadDeed_init, a_BadText_init := f_BadText_init, fd_BadText_init := _, F_BadText_init := fun_mk (st := s_BadText_init) l_BadText_init c_BadText_init k_BadText_init, a_BadLine_init := f_BadLine_init, fd_BadLine_init := _, F_BadLine_init := fun_mk (st := s_BadLine_init) l_BadLine_init c_BadLine_init k_BadLine_init, a_NoName_init := f_NoName_init, fd_NoName_init := _, F_NoName_init := fun_mk (st := s_NoName_init) l_NoName_init c_NoName_init k_NoName_init, a_NoPlace_init := f_NoPlace_init, fd_NoPlace_init := _, F_NoPlace_init := fun_mk (st := s_NoPlace_init) l_NoPlace_init c_NoPlace_init k_NoPlace_init, a_Unlike_init := f_Unlike_init, fd_Unlike_init := _, F_Unlike_init := fun_mk (st := s_Unlike_init) l_Unlike_init c_Unlike_init k_Unlike_init, a_TooMany_init := f_TooMany_init, fd_TooMany_init := _, F_TooMany_init := fun_mk (st := s_TooMany_init) l_TooMany_init c_TooMany_init k_TooMany_init, n_LookupError := PySem.W.mg_none_of X G z_LookupError, n_ValueError := PySem.W.mg_none_of X G z_ValueError, n_abs := PySem.W.mg_none_of X G z_abs, n_enumerate := PySem.W.mg_none_of X G z_enumerate, n_int := PySem.W.mg_none_of X G z_int, n_isinstance := PySem.W.mg_none_of X G z_isinstance, n_len := PySem.W.mg_none_of X G z_len, n_list := PySem.W.mg_none_of X G z_list, n_range := PySem.W.mg_none_of X G z_range, n_repr := PySem.W.mg_none_of X G z_repr, e_BadNumber := { C := C_BadNumber, f := f_BadNumber_init, fd := _, ps := ["self", "value"], oex := y_BadNumber.oex, err := y_BadNumber.err, iC := a_BadNumber_init, tI := t_BadNumber, no := fun y hy => by simp only [List.mem_cons, List.not_mem_nil, or_false] at hy; subst hy; exact n_BadNumber_value, m := PySem.W.mg_of X G x_BadNumber, run := fun _ _ _ => init_BadNumber (fun_mk (st := s_BadNumber_init) l_BadNumber_init c_BadNumber_init k_BadNumber_init) y_BadNumber.oex n_BadNumber_value, b := bd_BadNumber (fun_mk (st := s_BadNumber_init) l_BadNumber_init c_BadNumber_init k_BadNumber_init), kl := rfl, gk := gk1, kb := kb_BadNumber (fun_mk (st := s_BadNumber_init) l_BadNumber_init c_BadNumber_init k_BadNumber_init), kg := kg1 }, e_BadValue := { C := C_BadValue, f := f_BadValue_init, fd := _, ps := ["self", "value"], oex := y_BadValue.oex, err := y_BadValue.err, iC := a_BadValue_init, tI := t_BadValue, no := fun y hy => by simp only [List.mem_cons, List.not_mem_nil, or_false] at hy; subst hy; exact n_BadValue_value, m := PySem.W.mg_of X G x_BadValue, run := fun _ _ _ => init_BadValue (fun_mk (st := s_BadValue_init) l_BadValue_init c_BadValue_init k_BadValue_init) y_BadValue.oex n_BadValue_value, b := bd_BadValue (fun_mk (st := s_BadValue_init) l_BadValue_init c_BadValue_init k_BadValue_init), kl := rfl, gk := gk1, kb := kb_BadValue (fun_mk (st := s_BadValue_init) l_BadValue_init c_BadValue_init k_BadValue_init), kg := kg1 }, e_BadLot := { C := C_BadLot, f := f_BadLot_init, fd := _, ps := ["self", "part"], oex := y_BadLot.oex, err := y_BadLot.err, iC := a_BadLot_init, tI := t_BadLot, no := fun y hy => by simp only [List.mem_cons, List.not_mem_nil, or_false] at hy; subst hy; exact n_BadLot_part, m := PySem.W.mg_of X G x_BadLot, run := fun _ _ _ => init_BadLot (fun_mk (st := s_BadLot_init) l_BadLot_init c_BadLot_init k_BadLot_init) y_BadLot.oex n_BadLot_part, b := bd_BadLot (fun_mk (st := s_BadLot_init) l_BadLot_init c_BadLot_init k_BadLot_init), kl := rfl, gk := gk1, kb := kb_BadLot (fun_mk (st := s_BadLot_init) l_BadLot_init c_BadLot_init k_BadLot_init), kg := kg1 }, e_BadWheel := { C := C_BadWheel, f := f_BadWheel_init, fd := _, ps := ["self", "part"], oex := y_BadWheel.oex, err := y_BadWheel.err, iC := a_BadWheel_init, tI := t_BadWheel, no := fun y hy => by simp only [List.mem_cons, List.not_mem_nil, or_false] at hy; subst hy; exact n_BadWheel_part, m := PySem.W.mg_of X G x_BadWheel, run := fun _ _ _ => init_BadWheel (fun_mk (st := s_BadWheel_init) l_BadWheel_init c_BadWheel_init k_BadWheel_init) y_BadWheel.oex n_BadWheel_part, b := bd_BadWheel (fun_mk (st := s_BadWheel_init) l_BadWheel_init c_BadWheel_init k_BadWheel_init), kl := rfl, gk := gk1, kb := kb_BadWheel (fun_mk (st := s_BadWheel_init) l_BadWheel_init c_BadWheel_init k_BadWheel_init), kg := kg1 }, e_BadMeter := { C := C_BadMeter, f := f_BadMeter_init, fd := _, ps := ["self", "part"], oex := y_BadMeter.oex, err := y_BadMeter.err, iC := a_BadMeter_init, tI := t_BadMeter, no := fun y hy => by simp only [List.mem_cons, List.not_mem_nil, or_false] at hy; subst hy; exact n_BadMeter_part, m := PySem.W.mg_of X G x_BadMeter, run := fun _ _ _ => init_BadMeter (fun_mk (st := s_BadMeter_init) l_BadMeter_init c_BadMeter_init k_BadMeter_init) y_BadMeter.oex n_BadMeter_part, b := bd_BadMeter (fun_mk (st := s_BadMeter_init) l_BadMeter_init c_BadMeter_init k_BadMeter_init), kl := rfl, gk := gk1, kb := kb_BadMeter (fun_mk (st := s_BadMeter_init) l_BadMeter_init c_BadMeter_init k_BadMeter_init), kg := kg1 }, e_BadShelf := { C := C_BadShelf, f := f_BadShelf_init, fd := _, ps := ["self", "part"], oex := y_BadShelf.oex, err := y_BadShelf.err, iC := a_BadShelf_init, tI := t_BadShelf, no := fun y hy => by simp only [List.mem_cons, List.not_mem_nil, or_false] at hy; subst hy; exact n_BadShelf_part, m := PySem.W.mg_of X G x_BadShelf, run := fun _ _ _ => init_BadShelf (fun_mk (st := s_BadShelf_init) l_BadShelf_init c_BadShelf_init k_BadShelf_init) y_BadShelf.oex n_BadShelf_part, b := bd_BadShelf (fun_mk (st := s_BadShelf_init) l_BadShelf_init c_BadShelf_init k_BadShelf_init), kl := rfl, gk := gk1, kb := kb_BadShelf (fun_mk (st := s_BadShelf_init) l_BadShelf_init c_BadShelf_init k_BadShelf_init), kg := kg1 }, e_BadFollower := { C := C_BadFollower, f := f_BadFollower_init, fd := _, ps := ["self", "part"], oex := y_BadFollower.oex, err := y_BadFollower.err, iC := a_BadFollower_init, tI := t_BadFollower, no := fun y hy => by simp only [List.mem_cons, List.not_mem_nil, or_false] at hy; subst hy; exact n_BadFollower_part, m := PySem.W.mg_of X G x_BadFollower, run := fun _ _ _ => init_BadFollower (fun_mk (st := s_BadFollower_init) l_BadFollower_init c_BadFollower_init k_BadFollower_init) y_BadFollower.oex n_BadFollower_part, b := bd_BadFollower (fun_mk (st := s_BadFollower_init) l_BadFollower_init c_BadFollower_init k_BadFollower_init), kl := rfl, gk := gk1, kb := kb_BadFollower (fun_mk (st := s_BadFollower_init) l_BadFollower_init c_BadFollower_init k_BadFollower_init), kg := kg1 }, e_Unlike := { C := C_Unlike, f := f_Unlike_init, fd := _, ps := ["self", "part"], oex := y_Unlike.oex, err := y_Unlike.err, iC := a_Unlike_init, tI := t_Unlike, no := fun y hy => by simp only [List.mem_cons, List.not_mem_nil, or_false] at hy; subst hy; exact n_Unlike_part, m := PySem.W.mg_of X G x_Unlike, run := fun _ _ _ => init_Unlike (fun_mk (st := s_Unlike_init) l_Unlike_init c_Unlike_init k_Unlike_init) y_Unlike.oex n_Unlike_part, b := bd_Unlike (fun_mk (st := s_Unlike_init) l_Unlike_init c_Unlike_init k_Unlike_init), kl := rfl, gk := gk1, kb := kb_Unlike (fun_mk (st := s_Unlike_init) l_Unlike_init c_Unlike_init k_Unlike_init), kg := kg1 }, e_BadMark := { C := C_BadMark, f := f_BadMark_init, fd := _, ps := ["self", "at"], oex := y_BadMark.oex, err := y_BadMark.err, iC := a_BadMark_init, tI := t_BadMark, no := fun y hy => by simp only [List.mem_cons, List.not_mem_nil, or_false] at hy; subst hy; exact n_BadMark_at, m := PySem.W.mg_of X G x_BadMark, run := fun _ _ _ => init_BadMark (fun_mk (st := s_BadMark_init) l_BadMark_init c_BadMark_init k_BadMark_init) y_BadMark.oex n_BadMark_at, b := bd_BadMark (fun_mk (st := s_BadMark_init) l_BadMark_init c_BadMark_init k_BadMark_init), kl := rfl, gk := gk1, kb := kb_BadMark (fun_mk (st := s_BadMark_init) l_BadMark_init c_BadMark_init k_BadMark_init), kg := kg1 }, e_BadGear := { C := C_BadGear, f := f_BadGear_init, fd := _, ps := ["self", "at"], oex := y_BadGear.oex, err := y_BadGear.err, iC := a_BadGear_init, tI := t_BadGear, no := fun y hy => by simp only [List.mem_cons, List.not_mem_nil, or_false] at hy; subst hy; exact n_BadGear_at, m := PySem.W.mg_of X G x_BadGear, run := fun _ _ _ => init_BadGear (fun_mk (st := s_BadGear_init) l_BadGear_init c_BadGear_init k_BadGear_init) y_BadGear.oex n_BadGear_at, b := bd_BadGear (fun_mk (st := s_BadGear_init) l_BadGear_init c_BadGear_init k_BadGear_init), kl := rfl, gk := gk1, kb := kb_BadGear (fun_mk (st := s_BadGear_init) l_BadGear_init c_BadGear_init k_BadGear_init), kg := kg1 }, e_BadLog := { C := C_BadLog, f := f_BadLog_init, fd := _, ps := ["self", "at"], oex := y_BadLog.oex, err := y_BadLog.err, iC := a_BadLog_init, tI := t_BadLog, no := fun y hy => by simp only [List.mem_cons, List.not_mem_nil, or_false] at hy; subst hy; exact n_BadLog_at, m := PySem.W.mg_of X G x_BadLog, run := fun _ _ _ => init_BadLog (fun_mk (st := s_BadLog_init) l_BadLog_init c_BadLog_init k_BadLog_init) y_BadLog.oex n_BadLog_at, b := bd_BadLog (fun_mk (st := s_BadLog_init) l_BadLog_init c_BadLog_init k_BadLog_init), kl := rfl, gk := gk1, kb := kb_BadLog (fun_mk (st := s_BadLog_init) l_BadLog_init c_BadLog_init k_BadLog_init), kg := kg1 }, e_BadDeed := { C := C_BadDeed, f := f_BadDeed_init, fd := _, ps := ["self", "at"], oex := y_BadDeed.oex, err := y_BadDeed.err, iC := a_BadDeed_init, tI := t_BadDeed, no := fun y hy => by simp only [List.mem_cons, List.not_mem_nil, or_false] at hy; subst hy; exact n_BadDeed_at, m := PySem.W.mg_of X G x_BadDeed, run := fun _ _ _ => init_BadDeed (fun_mk (st := s_BadDeed_init) l_BadDeed_init c_BadDeed_init k_BadDeed_init) y_BadDeed.oex n_BadDeed_at, b := bd_BadDeed (fun_mk (st := s_BadDeed_init) l_BadDeed_init c_BadDeed_init k_BadDeed_init), kl := rfl, gk := gk1, kb := kb_BadDeed (fun_mk (st := s_BadDeed_init) l_BadDeed_init c_BadDeed_init k_BadDeed_init), kg := kg1 }, e_NoPlace := { C := C_NoPlace, f := f_NoPlace_init, fd := _, ps := ["self", "at"], oex := y_NoPlace.oex, err := y_NoPlace.err, iC := a_NoPlace_init, tI := t_NoPlace, no := fun y hy => by simp only [List.mem_cons, List.not_mem_nil, or_false] at hy; subst hy; exact n_NoPlace_at, m := PySem.W.mg_of X G x_NoPlace, run := fun _ _ _ => init_NoPlace (fun_mk (st := s_NoPlace_init) l_NoPlace_init c_NoPlace_init k_NoPlace_init) y_NoPlace.oex n_NoPlace_at, b := bd_NoPlace (fun_mk (st := s_NoPlace_init) l_NoPlace_init c_NoPlace_init k_NoPlace_init), kl := rfl, gk := gk1, kb := kb_NoPlace (fun_mk (st := s_NoPlace_init) l_NoPlace_init c_NoPlace_init k_NoPlace_init), kg := kg1 }, e_NoName := { C := C_NoName, f := f_NoName_init, fd := _, ps := ["self", "name"], oex := y_NoName.oex, err := y_NoName.err, iC := a_NoName_init, tI := t_NoName, no := fun y hy => by simp only [List.mem_cons, List.not_mem_nil, or_false] at hy; subst hy; exact n_NoName_name, m := PySem.W.mg_of X G x_NoName, run := fun _ _ _ => init_NoName (fun_mk (st := s_NoName_init) l_NoName_init c_NoName_init k_NoName_init) y_NoName.oex n_NoName_name, b := bd_NoName (fun_mk (st := s_NoName_init) l_NoName_init c_NoName_init k_NoName_init), kl := rfl, gk := gk1, kb := kb_NoName (fun_mk (st := s_NoName_init) l_NoName_init c_NoName_init k_NoName_init), kg := kg1 }, e_BadLine := { C := C_BadLine, f := f_BadLine_init, fd := _, ps := ["self", "word"], oex := y_BadLine.oex, err := y_BadLine.err, iC := a_BadLine_init, tI := t_BadLine, no := fun y hy => by simp only [List.mem_cons, List.not_mem_nil, or_false] at hy; subst hy; exact n_BadLine_word, m := PySem.W.mg_of X G x_BadLine, run := fun _ _ _ => init_BadLine (fun_mk (st := s_BadLine_init) l_BadLine_init c_BadLine_init k_BadLine_init) y_BadLine.oex n_BadLine_word, b := bd_BadLine (fun_mk (st := s_BadLine_init) l_BadLine_init c_BadLine_init k_BadLine_init), kl := rfl, gk := gk1, kb := kb_BadLine (fun_mk (st := s_BadLine_init) l_BadLine_init c_BadLine_init k_BadLine_init), kg := kg1 }, e_BadText := { C := C_BadText, f := f_BadText_init, fd := _, ps := ["self", "line", "word"], oex := y_BadText.oex, err := y_BadText.err, iC := a_BadText_init, tI := t_BadText, no := fun y hy => by simp only [List.mem_cons, List.not_mem_nil, or_false] at hy; rcases hy with rfl | rfl; exact n_BadText_line; exact n_BadText_word, m := PySem.W.mg_of X G x_BadText, run := fun _ _ _ => init_BadText (fun_mk (st := s_BadText_init) l_BadText_init c_BadText_init k_BadText_init) y_BadText.oex n_BadText_line n_BadText_word, b := bd_BadText (fun_mk (st := s_BadText_init) l_BadText_init c_BadText_init k_BadText_init), kl := rfl, gk := gk2, kb := kb_BadText (fun_mk (st := s_BadText_init) l_BadText_init c_BadText_init k_BadText_init), kg := kg2 }, e_TooMany := { C := C_TooMany, f := f_TooMany_init, fd := _, ps := ["self", "what", "most"], oex := y_TooMany.oex, err := y_TooMany.err, iC := a_TooMany_init, tI := t_TooMany, no := fun y hy => by simp only [List.mem_cons, List.not_mem_nil, or_false] at hy; rcases hy with rfl | rfl; exact n_TooMany_what; exact n_TooMany_most, m := PySem.W.mg_of X G x_TooMany, run := fun _ _ _ => init_TooMany (fun_mk (st := s_TooMany_init) l_TooMany_init c_TooMany_init k_TooMany_init) y_TooMany.oex n_TooMany_what n_TooMany_most, b := bd_TooMany (fun_mk (st := s_TooMany_init) l_TooMany_init c_TooMany_init k_TooMany_init), kl := rfl, gk := gk2, kb := kb_TooMany (fun_mk (st := s_TooMany_init) l_TooMany_init c_TooMany_init k_TooMany_init), kg := kg2 }, e_NoMember := { C := C_NoMember, own := ⟨_, _, _, _, PySem.F.excBase_ValueError, y_NoMember.own⟩, err := y_NoMember.err, tyC := y_NoMember.tyC, kC := y_NoMember.kC, m := PySem.W.mg_of X G x_NoMember }, e_Unfit := { C := C_Unfit, own := ⟨_, _, _, _, PySem.F.excBase_ValueError, y_Unfit.own⟩, err := y_Unfit.err, tyC := y_Unfit.tyC, kC := y_Unfit.kC, m := PySem.W.mg_of X G x_Unfit }, e_Nothing := { C := C_Nothing, own := ⟨_, _, _, _, PySem.F.excBase_ValueError, y_Nothing.own⟩, err := y_Nothing.err, tyC := y_Nothing.tyC, kC := y_Nothing.kC, m := PySem.W.mg_of X G x_Nothing }, e_ReachError := { C := C_ReachError, own := ⟨_, _, _, _, PySem.F.excBase_ValueError, y_ReachError.own⟩, err := y_ReachError.err, tyC := y_ReachError.tyC, kC := y_ReachError.kC, m := PySem.W.mg_of X G x_ReachError }, kit := kit_of (f := fun j => [C_BadNumber, C_BadValue, C_BadLot, C_BadWheel, C_BadMeter, C_BadShelf, C_BadFollower, C_Unlike, C_BadMark, C_BadGear, C_BadLog, C_BadDeed, C_NoPlace, C_NoName, C_BadLine, C_BadText, C_TooMany, C_NoMember, C_Unfit, C_Nothing].getD j C_ReachError) w_kit, kup := kup_of (f := fun j => [C_BadNumber, C_BadValue, C_BadLot, C_BadWheel, C_BadMeter, C_BadShelf, C_BadFollower, C_Unlike, C_BadMark, C_BadGear, C_BadLog, C_BadDeed, C_NoPlace, C_NoName, C_BadLine, C_BadText, C_TooMany, C_NoMember, C_Unfit, C_Nothing].getD j C_ReachError) w_up }
  refine ⟨[], spLaw K, fun p hp => absurd hp List.not_mem_nil, fun p hp => absurd hp List.not_mem_nil, fun p hp => absurd hp List.not_mem_nil, fun H a ns hl hb tt hS => ⟨a, ns, rfl, hS, hl, fun _ => rfl⟩, fun base KB NB TBs => ok_law T⟩
end My
open PySem PySem.W PyProof.Rows in
set_option maxRecDepth 100000 in
set_option maxHeartbeats 0 in
theorem PySem.Challenge.cw_wheelreach_k01_errors_keep_their_fields_holds : PySem.Challenge.rw_wheelreach_k01_errors_keep_their_fields.Holds := by
  w_on; o_law; k_head; (case hw => w_witness2)
  k_fill
  refine My.walkG (l := PySem.Challenge.rw_wheelreach_k01_errors_keep_their_fields) (k := 6) [] (by decide +kernel) rfl rfl ⟨rfl, by decide, by decide⟩ (fun w h Y => PySem.W.kIn_of Y) ?F
  case F =>
    intro w mg fa h KX G hmg tabs
    refine' My.all_mk KX G hmg tabs ?a_pen ?l_pen ?c_pen ?k_pen ?a_draw ?l_draw ?c_draw ?k_draw ?a_pick ?l_pick ?c_pick ?k_pick ?a_thing ?l_thing ?c_thing ?k_thing ?a_classes ?l_classes ?c_classes ?k_classes ?a_parted ?l_parted ?c_parted ?k_parted ?a_placed ?l_placed ?c_placed ?k_placed ?a_two_right ?l_two_right ?c_two_right ?k_two_right ?a_law ?l_law ?c_law ?k_law ?a_BadNumber_init ?l_BadNumber_init ?c_BadNumber_init ?k_BadNumber_init ?a_BadLot_init ?l_BadLot_init ?c_BadLot_init ?k_BadLot_init ?a_BadWheel_init ?l_BadWheel_init ?c_BadWheel_init ?k_BadWheel_init ?a_BadMeter_init ?l_BadMeter_init ?c_BadMeter_init ?k_BadMeter_init ?a_BadMark_init ?l_BadMark_init ?c_BadMark_init ?k_BadMark_init ?a_BadValue_init ?l_BadValue_init ?c_BadValue_init ?k_BadValue_init ?a_BadGear_init ?l_BadGear_init ?c_BadGear_init ?k_BadGear_init ?a_BadShelf_init ?l_BadShelf_init ?c_BadShelf_init ?k_BadShelf_init ?a_BadLog_init ?l_BadLog_init ?c_BadLog_init ?k_BadLog_init ?a_BadFollower_init ?l_BadFollower_init ?c_BadFollower_init ?k_BadFollower_init ?a_BadDeed_init ?l_BadDeed_init ?c_BadDeed_init ?k_BadDeed_init ?a_BadText_init ?l_BadText_init ?c_BadText_init ?k_BadText_init ?a_BadLine_init ?l_BadLine_init ?c_BadLine_init ?k_BadLine_init ?a_NoName_init ?l_NoName_init ?c_NoName_init ?k_NoName_init ?a_NoPlace_init ?l_NoPlace_init ?c_NoPlace_init ?k_NoPlace_init ?a_Unlike_init ?l_Unlike_init ?c_Unlike_init ?k_Unlike_init ?a_TooMany_init ?l_TooMany_init ?c_TooMany_init ?k_TooMany_init ?z_LookupError ?z_ValueError ?z_abs ?z_enumerate ?z_int ?z_isinstance ?z_len ?z_list ?z_range ?z_repr ?x_BadNumber ?y_BadNumber ?t_BadNumber ?n_BadNumber_value ?x_BadValue ?y_BadValue ?t_BadValue ?n_BadValue_value ?x_BadLot ?y_BadLot ?t_BadLot ?n_BadLot_part ?x_BadWheel ?y_BadWheel ?t_BadWheel ?n_BadWheel_part ?x_BadMeter ?y_BadMeter ?t_BadMeter ?n_BadMeter_part ?x_BadShelf ?y_BadShelf ?t_BadShelf ?n_BadShelf_part ?x_BadFollower ?y_BadFollower ?t_BadFollower ?n_BadFollower_part ?x_Unlike ?y_Unlike ?t_Unlike ?n_Unlike_part ?x_BadMark ?y_BadMark ?t_BadMark ?n_BadMark_at ?x_BadGear ?y_BadGear ?t_BadGear ?n_BadGear_at ?x_BadLog ?y_BadLog ?t_BadLog ?n_BadLog_at ?x_BadDeed ?y_BadDeed ?t_BadDeed ?n_BadDeed_at ?x_NoPlace ?y_NoPlace ?t_NoPlace ?n_NoPlace_at ?x_NoName ?y_NoName ?t_NoName ?n_NoName_name ?x_BadLine ?y_BadLine ?t_BadLine ?n_BadLine_word ?x_BadText ?y_BadText ?t_BadText ?n_BadText_line ?n_BadText_word ?x_TooMany ?y_TooMany ?t_TooMany ?n_TooMany_what ?n_TooMany_most ?x_NoMember ?y_NoMember ?x_Unfit ?y_Unfit ?x_Nothing ?y_Nothing ?x_ReachError ?y_ReachError ?w_kit ?w_up
    (case x_BadNumber => k_is)
    (case x_BadValue => k_is)
    (case x_BadLot => k_is)
    (case x_BadWheel => k_is)
    (case x_BadMeter => k_is)
    (case x_BadShelf => k_is)
    (case x_BadFollower => k_is)
    (case x_Unlike => k_is)
    (case x_BadMark => k_is)
    (case x_BadGear => k_is)
    (case x_BadLog => k_is)
    (case x_BadDeed => k_is)
    (case x_NoPlace => k_is)
    (case x_NoName => k_is)
    (case x_BadLine => k_is)
    (case x_BadText => k_is)
    (case x_TooMany => k_is)
    (case x_NoMember => k_is)
    (case x_Unfit => k_is)
    (case x_Nothing => k_is)
    (case x_ReachError => k_is)
    (case a_pen => k_is)
    (case l_pen => k_is)
    (case c_pen => k_is)
    (case k_pen => k_is)
    (case a_draw => k_is)
    (case l_draw => k_is)
    (case c_draw => k_is)
    (case k_draw => k_is)
    (case a_pick => k_is)
    (case l_pick => k_is)
    (case c_pick => k_is)
    (case k_pick => k_is)
    (case a_thing => k_is)
    (case l_thing => k_is)
    (case c_thing => k_is)
    (case k_thing => k_is)
    (case a_classes => k_is)
    (case l_classes => k_is)
    (case c_classes => k_is)
    (case k_classes => k_is)
    (case a_parted => k_is)
    (case l_parted => k_is)
    (case c_parted => k_is)
    (case k_parted => k_is)
    (case a_placed => k_is)
    (case l_placed => k_is)
    (case c_placed => k_is)
    (case k_placed => k_is)
    (case a_two_right => k_is)
    (case l_two_right => k_is)
    (case c_two_right => k_is)
    (case k_two_right => k_is)
    (case a_law => k_is)
    (case l_law => k_is)
    (case c_law => k_is)
    (case k_law => k_is)
    (case a_BadNumber_init => k_is)
    (case l_BadNumber_init => k_is)
    (case c_BadNumber_init => k_is)
    (case k_BadNumber_init => k_is)
    (case a_BadLot_init => k_is)
    (case l_BadLot_init => k_is)
    (case c_BadLot_init => k_is)
    (case k_BadLot_init => k_is)
    (case a_BadWheel_init => k_is)
    (case l_BadWheel_init => k_is)
    (case c_BadWheel_init => k_is)
    (case k_BadWheel_init => k_is)
    (case a_BadMeter_init => k_is)
    (case l_BadMeter_init => k_is)
    (case c_BadMeter_init => k_is)
    (case k_BadMeter_init => k_is)
    (case a_BadMark_init => k_is)
    (case l_BadMark_init => k_is)
    (case c_BadMark_init => k_is)
    (case k_BadMark_init => k_is)
    (case a_BadValue_init => k_is)
    (case l_BadValue_init => k_is)
    (case c_BadValue_init => k_is)
    (case k_BadValue_init => k_is)
    (case a_BadGear_init => k_is)
    (case l_BadGear_init => k_is)
    (case c_BadGear_init => k_is)
    (case k_BadGear_init => k_is)
    (case a_BadShelf_init => k_is)
    (case l_BadShelf_init => k_is)
    (case c_BadShelf_init => k_is)
    (case k_BadShelf_init => k_is)
    (case a_BadLog_init => k_is)
    (case l_BadLog_init => k_is)
    (case c_BadLog_init => k_is)
    (case k_BadLog_init => k_is)
    (case a_BadFollower_init => k_is)
    (case l_BadFollower_init => k_is)
    (case c_BadFollower_init => k_is)
    (case k_BadFollower_init => k_is)
    (case a_BadDeed_init => k_is)
    (case l_BadDeed_init => k_is)
    (case c_BadDeed_init => k_is)
    (case k_BadDeed_init => k_is)
    (case a_BadText_init => k_is)
    (case l_BadText_init => k_is)
    (case c_BadText_init => k_is)
    (case k_BadText_init => k_is)
    (case a_BadLine_init => k_is)
    (case l_BadLine_init => k_is)
    (case c_BadLine_init => k_is)
    (case k_BadLine_init => k_is)
    (case a_NoName_init => k_is)
    (case l_NoName_init => k_is)
    (case c_NoName_init => k_is)
    (case k_NoName_init => k_is)
    (case a_NoPlace_init => k_is)
    (case l_NoPlace_init => k_is)
    (case c_NoPlace_init => k_is)
    (case k_NoPlace_init => k_is)
    (case a_Unlike_init => k_is)
    (case l_Unlike_init => k_is)
    (case c_Unlike_init => k_is)
    (case k_Unlike_init => k_is)
    (case a_TooMany_init => k_is)
    (case l_TooMany_init => k_is)
    (case c_TooMany_init => k_is)
    (case k_TooMany_init => k_is)
    (case z_LookupError => k_is)
    (case z_ValueError => k_is)
    (case z_abs => k_is)
    (case z_enumerate => k_is)
    (case z_int => k_is)
    (case z_isinstance => k_is)
    (case z_len => k_is)
    (case z_list => k_is)
    (case z_range => k_is)
    (case z_repr => k_is)
    (case y_BadNumber => exact ⟨⟨⟨_, _, _, _, _, _, _, _, _, _, _, _, _, _, _, by k_is, by first | rfl | decide +kernel⟩, by k_is, by k_is, by k_is, by k_is⟩, ⟨by show PySem.W.isClsIn _ _ = true; k_is, by k_is, by k_is, by k_is, by k_is, by k_is, by k_is, by k_is, by k_is⟩⟩)
    (case t_BadNumber => k_is)
    (case n_BadNumber_value => k_is)
    (case y_BadValue => exact ⟨⟨⟨_, _, _, _, _, _, _, _, _, _, _, _, _, _, _, by k_is, by first | rfl | decide +kernel⟩, by k_is, by k_is, by k_is, by k_is⟩, ⟨by show PySem.W.isClsIn _ _ = true; k_is, by k_is, by k_is, by k_is, by k_is, by k_is, by k_is, by k_is, by k_is⟩⟩)
    (case t_BadValue => k_is)
    (case n_BadValue_value => k_is)
    (case y_BadLot => exact ⟨⟨⟨_, _, _, _, _, _, _, _, _, _, _, _, _, _, _, by k_is, by first | rfl | decide +kernel⟩, by k_is, by k_is, by k_is, by k_is⟩, ⟨by show PySem.W.isClsIn _ _ = true; k_is, by k_is, by k_is, by k_is, by k_is, by k_is, by k_is, by k_is, by k_is⟩⟩)
    (case t_BadLot => k_is)
    (case n_BadLot_part => k_is)
    (case y_BadWheel => exact ⟨⟨⟨_, _, _, _, _, _, _, _, _, _, _, _, _, _, _, by k_is, by first | rfl | decide +kernel⟩, by k_is, by k_is, by k_is, by k_is⟩, ⟨by show PySem.W.isClsIn _ _ = true; k_is, by k_is, by k_is, by k_is, by k_is, by k_is, by k_is, by k_is, by k_is⟩⟩)
    (case t_BadWheel => k_is)
    (case n_BadWheel_part => k_is)
    (case y_BadMeter => exact ⟨⟨⟨_, _, _, _, _, _, _, _, _, _, _, _, _, _, _, by k_is, by first | rfl | decide +kernel⟩, by k_is, by k_is, by k_is, by k_is⟩, ⟨by show PySem.W.isClsIn _ _ = true; k_is, by k_is, by k_is, by k_is, by k_is, by k_is, by k_is, by k_is, by k_is⟩⟩)
    (case t_BadMeter => k_is)
    (case n_BadMeter_part => k_is)
    (case y_BadShelf => exact ⟨⟨⟨_, _, _, _, _, _, _, _, _, _, _, _, _, _, _, by k_is, by first | rfl | decide +kernel⟩, by k_is, by k_is, by k_is, by k_is⟩, ⟨by show PySem.W.isClsIn _ _ = true; k_is, by k_is, by k_is, by k_is, by k_is, by k_is, by k_is, by k_is, by k_is⟩⟩)
    (case t_BadShelf => k_is)
    (case n_BadShelf_part => k_is)
    (case y_BadFollower => exact ⟨⟨⟨_, _, _, _, _, _, _, _, _, _, _, _, _, _, _, by k_is, by first | rfl | decide +kernel⟩, by k_is, by k_is, by k_is, by k_is⟩, ⟨by show PySem.W.isClsIn _ _ = true; k_is, by k_is, by k_is, by k_is, by k_is, by k_is, by k_is, by k_is, by k_is⟩⟩)
    (case t_BadFollower => k_is)
    (case n_BadFollower_part => k_is)
    (case y_Unlike => exact ⟨⟨⟨_, _, _, _, _, _, _, _, _, _, _, _, _, _, _, by k_is, by first | rfl | decide +kernel⟩, by k_is, by k_is, by k_is, by k_is⟩, ⟨by show PySem.W.isClsIn _ _ = true; k_is, by k_is, by k_is, by k_is, by k_is, by k_is, by k_is, by k_is, by k_is⟩⟩)
    (case t_Unlike => k_is)
    (case n_Unlike_part => k_is)
    (case y_BadMark => exact ⟨⟨⟨_, _, _, _, _, _, _, _, _, _, _, _, _, _, _, by k_is, by first | rfl | decide +kernel⟩, by k_is, by k_is, by k_is, by k_is⟩, ⟨by show PySem.W.isClsIn _ _ = true; k_is, by k_is, by k_is, by k_is, by k_is, by k_is, by k_is, by k_is, by k_is⟩⟩)
    (case t_BadMark => k_is)
    (case n_BadMark_at => k_is)
    (case y_BadGear => exact ⟨⟨⟨_, _, _, _, _, _, _, _, _, _, _, _, _, _, _, by k_is, by first | rfl | decide +kernel⟩, by k_is, by k_is, by k_is, by k_is⟩, ⟨by show PySem.W.isClsIn _ _ = true; k_is, by k_is, by k_is, by k_is, by k_is, by k_is, by k_is, by k_is, by k_is⟩⟩)
    (case t_BadGear => k_is)
    (case n_BadGear_at => k_is)
    (case y_BadLog => exact ⟨⟨⟨_, _, _, _, _, _, _, _, _, _, _, _, _, _, _, by k_is, by first | rfl | decide +kernel⟩, by k_is, by k_is, by k_is, by k_is⟩, ⟨by show PySem.W.isClsIn _ _ = true; k_is, by k_is, by k_is, by k_is, by k_is, by k_is, by k_is, by k_is, by k_is⟩⟩)
    (case t_BadLog => k_is)
    (case n_BadLog_at => k_is)
    (case y_BadDeed => exact ⟨⟨⟨_, _, _, _, _, _, _, _, _, _, _, _, _, _, _, by k_is, by first | rfl | decide +kernel⟩, by k_is, by k_is, by k_is, by k_is⟩, ⟨by show PySem.W.isClsIn _ _ = true; k_is, by k_is, by k_is, by k_is, by k_is, by k_is, by k_is, by k_is, by k_is⟩⟩)
    (case t_BadDeed => k_is)
    (case n_BadDeed_at => k_is)
    (case y_NoPlace => exact ⟨⟨⟨_, _, _, _, _, _, _, _, _, _, _, _, _, _, _, by k_is, by first | rfl | decide +kernel⟩, by k_is, by k_is, by k_is, by k_is⟩, ⟨by show PySem.W.isClsIn _ _ = true; k_is, by k_is, by k_is, by k_is, by k_is, by k_is, by k_is, by k_is, by k_is⟩⟩)
    (case t_NoPlace => k_is)
    (case n_NoPlace_at => k_is)
    (case y_NoName => exact ⟨⟨⟨_, _, _, _, _, _, _, _, _, _, _, _, _, _, _, by k_is, by first | rfl | decide +kernel⟩, by k_is, by k_is, by k_is, by k_is⟩, ⟨by show PySem.W.isClsIn _ _ = true; k_is, by k_is, by k_is, by k_is, by k_is, by k_is, by k_is, by k_is, by k_is⟩⟩)
    (case t_NoName => k_is)
    (case n_NoName_name => k_is)
    (case y_BadLine => exact ⟨⟨⟨_, _, _, _, _, _, _, _, _, _, _, _, _, _, _, by k_is, by first | rfl | decide +kernel⟩, by k_is, by k_is, by k_is, by k_is⟩, ⟨by show PySem.W.isClsIn _ _ = true; k_is, by k_is, by k_is, by k_is, by k_is, by k_is, by k_is, by k_is, by k_is⟩⟩)
    (case t_BadLine => k_is)
    (case n_BadLine_word => k_is)
    (case y_BadText => exact ⟨⟨⟨_, _, _, _, _, _, _, _, _, _, _, _, _, _, _, by k_is, by first | rfl | decide +kernel⟩, by k_is, by k_is, by k_is, by k_is⟩, ⟨by show PySem.W.isClsIn _ _ = true; k_is, by k_is, by k_is, by k_is, by k_is, by k_is, by k_is, by k_is, by k_is⟩⟩)
    (case t_BadText => k_is)
    (case n_BadText_line => k_is)
    (case n_BadText_word => k_is)
    (case y_TooMany => exact ⟨⟨⟨_, _, _, _, _, _, _, _, _, _, _, _, _, _, _, by k_is, by first | rfl | decide +kernel⟩, by k_is, by k_is, by k_is, by k_is⟩, ⟨by show PySem.W.isClsIn _ _ = true; k_is, by k_is, by k_is, by k_is, by k_is, by k_is, by k_is, by k_is, by k_is⟩⟩)
    (case t_TooMany => k_is)
    (case n_TooMany_what => k_is)
    (case n_TooMany_most => k_is)
    (case y_NoMember => exact ⟨by k_exc, ⟨by show PySem.W.isClsIn _ _ = true; k_is, by k_is, by k_is, by k_is, by k_is, by k_is, by k_is, by k_is, by k_is⟩, by k_is, by k_is⟩)
    (case y_Unfit => exact ⟨by k_exc, ⟨by show PySem.W.isClsIn _ _ = true; k_is, by k_is, by k_is, by k_is, by k_is, by k_is, by k_is, by k_is, by k_is⟩, by k_is, by k_is⟩)
    (case y_Nothing => exact ⟨by k_exc, ⟨by show PySem.W.isClsIn _ _ = true; k_is, by k_is, by k_is, by k_is, by k_is, by k_is, by k_is, by k_is, by k_is⟩, by k_is, by k_is⟩)
    (case y_ReachError => exact ⟨by k_exc, ⟨by show PySem.W.isClsIn _ _ = true; k_is, by k_is, by k_is, by k_is, by k_is, by k_is, by k_is, by k_is, by k_is⟩, by k_is, by k_is⟩)
    (case w_kit => first | rfl | decide +kernel)
    (case w_up => first | rfl | decide +kernel)
