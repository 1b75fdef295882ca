import PyProof.Rows.All
import Wide.All
import OpenK.AllK
import Wide.FinOn
import HandS.ForMost
import HandS.ForExc
import HandS.Wide
import HandS.IsInst
import HandS.Lambda
import HandS.Defaults
import HandS.Evl
import HandS.Codes
import HandS.Style
import HandS.More
import HandS.FStr
import HandS.TryMany
import HandS.ExcField
import HandS.NoneIn
import HandS.ExcInit
import HandS.ExcSuper
import KE.KExcSuper
import KE.KExcInit
import KE.DatumOrd
import HandS.Zip
import HandS.Walk
import HandS.Rev
import HandS.TupAny
import HandS.DictComp
import HandS.CallLocal
import HandS.Star
import HandS.Flow
import HandS.Nested
import HandS.TupMul
import HandS.Head0
import HandS.Head1
import HandS.Head2
import HandS.HeadEnd
import HandS.HeadHook1
import HandS.HeadHook2
import HandS.HeadHook3
import HandS.HeadHook4
import HandS.HeadWalk
import HandS.SortKw
import KE.KSortKeySt
import PySem.Challenge.RW_hueshade_k53_deeds_as_texts
import KE.KUnpackStar
import HandS.StrMore
import HandS.RaiseMore
import HandS.ExcOwn
import HandS.ExcValue
set_option Elab.async false
set_option linter.all false
set_option maxRecDepth 100000
set_option maxHeartbeats 0
namespace Hs
open PySem PySem.Spec PyProof.Rows L2 Evl
/-! ### own words -/
/-- // by any divisor but nought, below 2 ^ 9000 -/
def CDivG (i j : Int) : Prop := j ≠ 0 ∧ (j.natAbs.log2 < 9000 ∨ i.natAbs.log2 < 13400)
theorem noPylong_x {x y : Int} (h : x.natAbs.log2 < 13400) : Builtin.divisionGoesByPylong x y = false := by
  have key : (if x == 0 then 0 else x.natAbs.log2 / 30 + 1) ≤ 450 := by
    by_cases hx : (x == 0) = true
    · rw [if_pos hx]
      exact Nat.zero_le _
    · rw [if_neg hx]
      omega
  show (decide ((if y == 0 then 0 else y.natAbs.log2 / 30 + 1) > 300) && decide ((if x == 0 then 0 else x.natAbs.log2 / 30 + 1) > (if y == 0 then 0 else y.natAbs.log2 / 30 + 1) + 150)) = false
  generalize (if y == 0 then 0 else y.natAbs.log2 / 30 + 1) = b
  generalize (if x == 0 then 0 else x.natAbs.log2 / 30 + 1) = a at key
  by_cases hb : b > 300
  · rw [decide_eq_false (show ¬ a > b + 150 by omega), Bool.and_false]
  · rw [decide_eq_false hb, Bool.false_and]
theorem op_fdivG {X : Cx} : OpR X (binaryOp .FloorDiv) (rI CDivG fun i j => .int (i.fdiv j)) := opI fun i j _ _ _ _ _ hc q => floordiv_int hc.1 q (.inl (hc.2.elim PyProof.noPylong_of_log2 noPylong_x))
theorem divG {i j : Int} {b : Nat} (h : j ≠ 0) (hb : j.natAbs < 2 ^ b) (h0 : 0 < b) (h9 : b ≤ 9000) : CDivG i j := ⟨h, .inl (Nat.lt_of_lt_of_le (PySem.Flt.log2_lt_of h0 hb) h9)⟩
theorem divX {i j : Int} {b : Nat} (h : j ≠ 0) (hb : i.natAbs < 2 ^ b) (h0 : 0 < b) (h9 : b ≤ 13400) : CDivG i j := ⟨h, .inr (Nat.lt_of_lt_of_le (PySem.Flt.log2_lt_of h0 hb) h9)⟩
theorem mul64 {i j : Int} (ha : i.natAbs < 2 ^ 64) (hb : j.natAbs < 2 ^ 64) : CMulW i j := wide_mul ha hb (by decide) (by decide) (by decide)
theorem modP {i j : Int} (h : 0 < j) : 0 ≤ i.fmod j ∧ i.fmod j < j := by
  rw [Int.fmod_eq_emod_of_nonneg i (Int.le_of_lt h)]
  exact ⟨Int.emod_nonneg i (by omega), Int.emod_lt_of_pos i h⟩
/-- an own def by its promise -/
structure Own (P : Program) (w : World) (K : PySem.W.Frag) (mg : Str → Option Value) (base : Heap) (k : Nat) (x : Str) (ps : List Str) (sp : Sp) : Prop where
  ex : ∃ (f : Addr) (fd : FuncData), FnOk P w K mg base CX0 k f fd ps sp ∧ mg x = some (.ref f) ∧ PySem.W.keepIn K (.ref f) = true ∧ Binds K fd ps []
theorem pe_own {X : Cx} {k j : Nat} {x : Str} {ps : List Str} {sp : Sp} {e : Expr} {es : List Expr} {t : TA} {p pos : Pos} (O : Own X.prog X.w X.K X.mg X.base k x ps sp) (hr : Room j X.A) (hk : k ≤ j) (hg : Gl X x) (ha : PA X (e :: es) t)
    (hdb : (x == ("__debug__" : Str)) = false := by decide) (he : starEach (e :: es) X.env = (false, eval e X.env) :: starEach es X.env := by rfl) (hpl : (backTo pos (starEach es X.env)).any (·.1) = false := by rfl) :
    PE X (.Call (.Name x p) (e :: es) [] pos) (tCall sp [] E0 t) := by
  obtain ⟨f, fd, F, m, kp, b⟩ := O.ex
  exact pe_call F (hr.mono hk) hg m kp b .nil pass0 ha hdb he hpl
abbrev FnP (K : PySem.W.Frag) (x : Str) (st : Stmt) (f : Addr) (fd : FuncData) : Prop := FunD K x x (defArgs st) (defBody st) (defScope st) [] [] f fd
theorem own_of {P : Program} {w : World} {K : PySem.W.Frag} {mg : Str → Option Value} {base : Heap} {k : Nat} {x : Str} {ps : List Str} {sp : Sp} {st : Stmt} {f : Addr} {fd : FuncData} (F : FnP K x st f fd) (m : mg x = some (.ref f)) (G : FnOk P w K mg base CX0 k f fd ps sp)
    (h : ∀ (kV doc pm : Value) (an : Option Addr) (cdv ct : Value) (us : List Value), us.length = ps.length → bindArgs (PySem.W.fnOf x x (defArgs st) (defBody st) (defScope st) .none kV doc pm an cdv ct) ⟨us, []⟩ = pure (ps.zip us)) : Own P w K mg base k x ps sp :=
  ⟨f, fd, G, m, F.kp, F.bindsN h⟩
theorem ev_ix {K : PySem.W.Frag} {σ : L2.St} {H : Hp} {b : Addr} {xs : List V} {i : Int} {v : V} {j : Nat} (hs : σ[j]? = some (some (.ref b))) (hb : H b = some (.lst xs)) (ha : atI xs i = some v) : Ev (tOp (rIxL K) (tVar j) (tC (.int i))) σ H v :=
  ev_op (ev_var hs) ev_c (rv_ixL (sq_of hb) ha)
theorem ev_ixt {K : PySem.W.Frag} {σ : L2.St} {H : Hp} {b : Addr} {xs : List V} {i : Int} {v : V} {j : Nat} (hs : σ[j]? = some (some (.ref b))) (hb : SqT K H b xs) (ha : atI xs i = some v) : Ev (tOp (rIxT K) (tVar j) (tC (.int i))) σ H v :=
  ev_op (ev_var hs) ev_c (rv_ixT hb ha)
theorem ite_T {c : Bool} {A B : Prop} (hc : c = true) (h : A) : if c = true then A else B := by
  rw [if_pos hc]
  exact h
theorem ite_F {c : Bool} {A B : Prop} (hc : c = false) (h : B) : if c = true then A else B := by
  rw [hc, if_neg Bool.false_ne_true]
  exact h
/-! ### the bag that draws -/
structure BagAt (H : Hp) (b l : Addr) (ns : List Int) (n : Nat) : Prop where
  ex : ∃ (i : Nat) (z s : Int) (c : Nat), H b = some (.lst [.ref l, .int i, .int z, .int s, .int c]) ∧ i ≤ ns.length ∧ 0 ≤ s ∧ s < 2147483647 ∧ c ≤ n
  ls : H l = some (.lst (ns.map V.int))
  ne : b ≠ l
/-- all but the object at b stays -/
def But (H H' : Hp) (b : Addr) : Prop := ∀ a o, H a = some o → a ≠ b → H' a = some o
theorem But.refl {H : Hp} {b : Addr} : But H H b := fun _ _ e _ => e
theorem But.trans {H H1 H2 : Hp} {b : Addr} (x : But H H1 b) (y : But H1 H2 b) : But H H2 b := fun a o e n => y a o (x a o e n) n
theorem But.ex {H H1 H2 : Hp} {b : Addr} (x : But H H1 b) (y : Ex H1 H2) : But H H2 b := fun a o e n => y a o (x a o e n)
theorem But.of {H H1 : Hp} {b : Addr} (y : Ex H H1) : But H H1 b := fun a o e _ => y a o e
theorem But.upd {H H1 : Hp} {b : Addr} {u : HO} (x : But H H1 b) : But H (upd H1 b u) b := fun a o e n => by
  rw [upd_ne n]
  exact x a o e n
theorem BagAt.ext {H H1 : Hp} {b l : Addr} {ns : List Int} {n m : Nat} (B : BagAt H b l ns n) (e : Ex H H1) (h : n ≤ m) : BagAt H1 b l ns m := by
  obtain ⟨⟨i, z, s, c, h1, h2, h3, h4, h5⟩, h6, h7⟩ := B
  exact ⟨⟨i, z, s, c, e _ _ h1, h2, h3, h4, Nat.le_trans h5 h⟩, e _ _ h6, h7⟩
def spPull : Sp := fun vs H Q _ => ∃ (b l : Addr) (ns : List Int) (n : Nat) (many : Int), vs = [.ref b, .int many] ∧ BagAt H b l ns n ∧ n < 1000000 ∧ 0 < many ∧ many < 2 ^ 200 ∧
  ∀ (v : Int) (H' : Hp), 0 ≤ v → v < many → BagAt H' b l ns (n + 1) → But H H' b → Q (.int v) H'
def spBag (K : PySem.W.Frag) : Sp := fun vs H Q _ => ∃ (a : Addr) (ns : List Int), vs = [.ref a] ∧ SqL K H a (ns.map V.int) ∧ ns.length ≤ 63 ∧
  ∀ (b l : Addr) (H' : Hp), H b = none → H l = none → BagAt H' b l ns 0 → Ex H H' → Q (.ref b) H'
end Hs
namespace Hs
open PySem
def top (i : Nat) : Stmt := PySem.Challenge.pw_hueshade_k53_deeds_as_texts.main.body.getD i (.Pass ⟨0, 0, 0, 0⟩)
end Hs
namespace Hs
open PySem PySem.Spec PyProof.Rows L2
/-! ### own error classes whose __init__ begins with super().__init__(..) -/
section
open PySem.W
variable {prog : Program} {w : World} {A : Around} {E : Value → Shared → Prop} {h : Heap} {g : Array GenState} {d : Drawn} {t : Nat} {os : OsState}
variable {nm q : Str} {C N : Addr} {bs bm bmB : List Value} {hdct : Bool} {sn : List Str} {sub : List Value} {ab : Bool} {col : Option Bool} {dd : Option Addr} {k0 k1 k2 k3 k5 : Option Value} {B newId initId : String}
theorem call_mw (FB : ExcBaseFacts B newId initId bmB) {u e t0 : Addr} {rest : List Value} {Q : Value → Shared → Prop}
    (hC : h.get? C = some (excClassObj nm q C N bs bm hdct sn sub ab col dd k0 k1 k2 k3 k5 newId)) (he : h.get? e = some (HandSPX.excO C t0)) (hu : h.get? u = some (kxs_mw initId e)) (hrest : rest.length ≤ sizeLine)
    (hq : ∀ h' t1, (∀ b o, b ≠ e → h.get? b = some o → h'.get? b = some o) → h'.get? e = some (HandSPX.excO C t1) → Q .none ⟨h', g, d, t, os⟩) :
    wpAny (model prog w) A (call (.ref u) rest) Q E ⟨h, g, d, t, os⟩ := by
  refine wpAny_call (codeAny_of_tree ?_)
  show wpAny _ A.in1 (callAny (.ref u) ⟨rest, []⟩) _ _ _
  simp only [callAny]
  refine wpAny_bind (wpAny_load hu ?_)
  simp only [kxs_mw, show (Value.type "method-wrapper" == Value.type "method" || Value.type "method-wrapper" == Value.type "builtin_function_or_method" || Value.type "method-wrapper" == Value.type "method-wrapper") = true by decide, if_true]
  refine KFB.if_so (by decide) ?_
  refine wpAny_bind (ESX.check_bound FB hC he rfl ?_)
  refine wpAny_bind (wpAny_pure (wpAny_pure ?_))
  refine ⟨plainId_quiet FB.init.plain _, codeAny_builtin FB.initEntry ?_⟩
  exact exc_init_tree (cls := .ref C) (t0 := t0) (dv := none) (c2 := .none) (c3 := .none) (b4 := .bool false) he hrest fun h' k e' _ => hq h' _ k e'
end
end Hs
namespace Hs
open PySem PySem.Spec PyProof.Rows L2
/-! ### own errors over any of Python's plain bases -/
/-- what is known of a base of Python's -/
structure BasX (B newId initId : String) (bmB : List Value) : Prop where
  eb : ExcBaseFacts B newId initId bmB
  st : StoreFacts B bmB "object.__setattr__" "object"
  kx : PySem.W.KxsFacts B initId
abbrev tailOf (B : String) : List Value := [.type B, .type "Exception", .type "BaseException", .type "object"]
theorem basV : BasX "ValueError" "ValueError.__new__" "ValueError.__init__" (tailOf "ValueError") := ⟨F.excBase_ValueError, F.store_ValueError, PySem.W.kxs_ValueError⟩
theorem basR : BasX "RuntimeError" "RuntimeError.__new__" "RuntimeError.__init__" (tailOf "RuntimeError") := ⟨F.excBase_RuntimeError, F.store_RuntimeError, PySem.W.kxs_RuntimeError⟩
theorem basL : BasX "LookupError" "LookupError.__new__" "LookupError.__init__" (tailOf "LookupError") := ⟨F.excBase_LookupError, F.store_LookupError, PySem.W.kxs_LookupError⟩
/-- an own class over such a base, as it is written -/
structure OexG (K : PySem.W.Frag) (C : Addr) (newId : String) (bmB : List Value) : Prop where
  cls : ∃ nm q N bs bm sn sub ab col dd k0 k1 k2 k3 k5, K.lookup C = some (excClassObj nm q C N bs bm true sn sub ab col dd k0 k1 k2 k3 k5 newId) ∧ PySem.W.excTail bmB bm = true
  sa : PySem.W.findIn K (.ref C) "__setattr__" = some (some (.builtin "object.__setattr__"))
  exC : PySem.W.subIn K (.ref C) (.type "BaseException") = some true
  tyC : PySem.W.typeIn K (.ref C) = some (.type "type")
  kC : PySem.W.keepIn K (.ref C) = true
section
variable {K : PySem.W.Frag} {C : Addr} {newId : String} {bmB : List Value}
theorem OexG.over (T : OexG K C newId bmB) : PySem.W.excOver K C bmB = true := by
  obtain ⟨nm, q, N, bs, bm, sn, sub, ab, col, dd, k0, k1, k2, k3, k5, hC, ht⟩ := T.cls
  unfold PySem.W.excOver PySem.W.clsIn
  rw [hC]
  show ((C == C) && PySem.W.excTail bmB bm) = true
  simp [ht]
theorem OexG.cd (T : OexG K C newId bmB) : ∃ cd, PySem.W.clsIn K C = some cd ∧ cd.hasDict = true := by
  obtain ⟨nm, q, N, bs, bm, sn, sub, ab, col, dd, k0, k1, k2, k3, k5, hC, ht⟩ := T.cls
  refine ⟨{ name := nm, bases := bs, mro := .ref C :: bm, ns := N, qualname := q, hasDict := true, slotNames := sn, subclasses := sub, abstract := ab, collection := col, hasDel := false }, ?_, rfl⟩
  unfold PySem.W.clsIn
  rw [hC] <;> rfl
theorem taker_no {f : Str} (h : PySem.W.findIn K (.ref C) f = some none) : PySem.W.takerIn K C f = some none := by
  unfold PySem.W.takerIn
  rw [h] <;> rfl
end
section
open Builtin Builtin.ObjectAttr
variable {prog : Program} {w : World} {A : Around} {R : Result → Shared → Prop} {hp : Heap} {g : Array GenState} {d : Drawn} {t : Nat} {os : OsState} {K : PySem.W.Frag} {C x : Addr} {B newId initId : String} {bmB : List Value}
/-- the first field: the dict is made -/
theorem put_new (bx : BasX B newId initId bmB) (T : OexG K C newId bmB) (kin : K.In hp) {fl : Str} {tk : Tok} {u : Value} {fv : Array Value} (hx : hp.get? x = some { cls := .ref C, data := .fields fv }) (hno : PySem.W.findIn K (.ref C) fl = some none)
    (fin : ∀ hq tq dx, (∀ b o, b ≠ x → hp.get? b = some o → hq.get? b = some o) → hp.objs.size ≤ dx → dx ≠ x → hq.get? x = some { cls := .ref C, dict := some dx, data := .fields fv } → hq.Ns1 dx (fun y => if y = fl then some u else none) → R (.ok (.ret .none)) ⟨hq, g, d, tq, os⟩) :
    codeAny (model prog w) A (.call (.builtin "object.__setattr__") ⟨[.ref x, .str fl tk, u], []⟩) R ⟨hp, g, d, t, os⟩ := by
  obtain ⟨cd, hcd, hdc⟩ := T.cd
  have lk : PySem.W.Looks (model prog w) hp (classData C) cd := PySem.W.looks_clsIn kin hcd
  have far : x ≠ hp.objs.size := Nat.ne_of_lt (Heap.lt_size hx)
  refine PySem.W.osa_openX (s := ⟨hp, g, d, t, os⟩) (od := none) (ox := { cls := .ref C, data := .fields fv }) bx.st kin ⟨hx, rfl, rfl, trivial⟩ T.over (taker_no hno) fun bb => ?_
  obtain ⟨c1, c2, c3, c4, c5, c6, c7, c8, c9, c10, c11⟩ := cd
  dsimp only at hdc
  subst hdc
  unfold storeInOwnDict ownDictForStores
  repeat (first | with_reducible refine HandSPX.store_in_new ?_ ?_ | with_reducible refine wpAny_loadPart_at hx ?_ | with_reducible refine lk.at ?_ | wp_step)
  · exact ⟨_, #[], _, (Heap.get?_update_ne _ _ _ _ far.symm).trans (Heap.get?_push_at rfl rfl), rfl, fun z hz => absurd hz (by simp), fun _ => rfl⟩
  · intro hq tq hn sm
    have old : (hp.push { cls := .type "dict", data := .dict #[] }).get? x = some { cls := .ref C, data := .fields fv } := Heap.get?_push_of_some _ hx
    refine fin hq tq hp.objs.size (fun b o nb ho => ?_) (Nat.le_refl _) far.symm ((sm.2 x far).trans (Heap.get?_update_self _ old rfl)) hn
    rw [sm.2 b (Nat.ne_of_lt (Heap.lt_size ho)), Heap.get?_update_ne _ _ _ _ nb]
    exact Heap.get?_push_of_some _ ho
/-- a further field -/
theorem put_more (bx : BasX B newId initId bmB) (T : OexG K C newId bmB) (kin : K.In hp) {fl : Str} {tk : Tok} {u : Value} {fv : Array Value} {dx : Addr} {m0 : Str → Option Value} {nl : List Str} (hx : hp.get? x = some { cls := .ref C, dict := some dx, data := .fields fv }) (hns : hp.Ns1 dx m0) (hw : Within m0 nl) (hz : nl.length ≤ 1000) (hno : PySem.W.findIn K (.ref C) fl = some none)
    (fin : ∀ hq tq, (∀ b o, b ≠ dx → hp.get? b = some o → hq.get? b = some o) → hq.Ns1 dx (fun y => if y = fl then some u else m0 y) → R (.ok (.ret .none)) ⟨hq, g, d, tq, os⟩) :
    codeAny (model prog w) A (.call (.builtin "object.__setattr__") ⟨[.ref x, .str fl tk, u], []⟩) R ⟨hp, g, d, t, os⟩ := by
  obtain ⟨cd, hcd, hdc⟩ := T.cd
  have lk : PySem.W.Looks (model prog w) hp (classData C) cd := PySem.W.looks_clsIn kin hcd
  obtain ⟨oD, q1, q2, hoD, q3, q4⟩ := hns.count hw
  refine PySem.W.osa_openX (s := ⟨hp, g, d, t, os⟩) (od := some oD) (ox := { cls := .ref C, dict := some dx, data := .fields fv }) bx.st kin ⟨hx, rfl, rfl, hoD⟩ T.over (taker_no hno) fun bb => ?_
  obtain ⟨c1, c2, c3, c4, c5, c6, c7, c8, c9, c10, c11⟩ := cd
  dsimp only at hdc
  subst hdc
  unfold storeInOwnDict ownDictForStores
  repeat (first | with_reducible refine OEX.store_in_old hns hw hz ?_ | with_reducible refine wpAny_loadPart_at hx ?_ | with_reducible refine lk.at ?_ | wp_step)
  exact fun hq tq hn sm => fin hq tq (fun b o nb ho => (sm.2 b nb).trans ho) hn
end
section
variable {X : Cx} {pins : List (Addr × Obj)} {σ : L2.St} {H : Hp} {s : Shared} {a C dx : Addr} {fl : Str} {y : V} {u : Value} {fs : List (Str × V)} {Q : Unit → Shared → Prop} {E : Value → Shared → Prop} {A : Around} {B newId initId : String} {bmB : List Value}
theorem set_new (bx : BasX B newId initId bmB) (T : OexG X.K C newId bmB) (I : Inv X pins σ H s) (ea : H a = some (exo a C none)) (hno : PySem.W.findIn X.K (.ref C) fl = some none) (ry : RelV y u)
    (k : ∀ dx s', H dx = none → dx ≠ a → Inv X pins σ (upd (upd H dx (exd dx [(fl, y)])) a (exo a C (some dx))) s' → Q () s') : wpAny (model X.prog X.w) A (setAttr (.ref a) fl u) Q E s := by
  obtain ⟨t1, ho⟩ := exo_at I.hok ea
  obtain ⟨hp, g, d, t, os⟩ := s
  refine PySem.W.set_plain (od := none) I.kIn (ox := { cls := .ref C, dict := none, data := .fields #[.ref t1, .none, .none, .none, .bool false, .none] }) ⟨ho, rfl, rfl, trivial⟩ T.sa ?_
  refine put_new bx T I.kIn ho hno fun hq tq dx stay dn dne hx hn => ?_
  have fresh : H dx = none := I.hok.fresh dn
  have nda : ∀ {b : Addr}, H b = none → b ≠ a := fun nb z => by
    rw [z, ea] at nb
    cases nb
  have ndx : ∀ {b : Addr} {ob : Obj}, hp.get? b = some ob → b ≠ dx := fun qq => Nat.ne_of_lt (Nat.lt_of_lt_of_le (Heap.lt_size qq) dn)
  have two : ∀ {b : Addr} {v : HO}, H b = some v → exo a C none ≠ v → upd (upd H dx (exd dx [(fl, y)])) a (exo a C (some dx)) b = some v := fun {b v} hb hne => by
    rw [upd_ne (at_ne ea hb hne), upd_ne (ne_of_none hb fresh)]
    exact hb
  have un : Un X.fs [] H (upd (upd H dx (exd dx [(fl, y)])) a (exo a C (some dx))) hp hq := by
    constructor
    · exact fun b o hb nb _ _ => stay b o (nda nb) hb
    · exact fun b o hb nb _ _ => ⟨o.slots, stay b o (nda nb) hb⟩
    · intro b o hb nb _
      rw [upd_ne (nda nb), upd_ne (ndx hb)]
      exact nb
    · intro b o hb _
      by_cases e : b = a
      · rw [e]
        exact ⟨_, hx⟩
      · exact ⟨o, stay b o e hb⟩
    · exact fun b xs hb => two hb exo_tup
    · exact fun b o v hb => two hb exo_frz
    · intro b ps hb
      refine ⟨#[], ?_⟩
      rw [two hb exo_tbl, Array.append_empty]
  refine k dx _ fresh dne (I.un (t' := tq) un fun b o hb => ?_)
  by_cases e1 : b = a
  · rw [e1, upd_same] at hb
    cases hb
    rw [e1]
    exact exo_ok hx
  · rw [upd_ne e1] at hb
    by_cases e2 : b = dx
    · rw [e2, upd_same] at hb
      cases hb
      rw [e2]
      exact exd_ok hn (relO_put (fs := []) ry fun _ => True.intro)
    · rw [upd_ne e2] at hb
      refine (I.hok b o hb).stay (fun c v hc hv => stay c v ?_ hv) (fun c hc => two hc exo_own) (fun c xs hc => two hc exo_tup)
      rcases hc with rfl | hc
      · exact e1
      · exact at_ne ea hc exo_own
theorem set_more (bx : BasX B newId initId bmB) (T : OexG X.K C newId bmB) (I : Inv X pins σ H s) (ea : H a = some (exo a C (some dx))) (ed : H dx = some (exd dx fs)) (hl : fs.length ≤ 900) (hno : PySem.W.findIn X.K (.ref C) fl = some none) (ry : RelV y u)
    (k : ∀ s', Inv X pins σ (upd H dx (exd dx ((fl, y) :: fs))) s' → Q () s') : wpAny (model X.prog X.w) A (setAttr (.ref a) fl u) Q E s := by
  obtain ⟨t1, ho⟩ := exo_at I.hok ea
  obtain ⟨mA, hns, rel⟩ := exd_at I.hok ed
  obtain ⟨oD, _, _, hoD, _, _⟩ := hns.count (within_of rel)
  obtain ⟨hp, g, d, t, os⟩ := s
  refine PySem.W.set_plain (od := some oD) I.kIn (ox := { cls := .ref C, dict := some dx, data := .fields #[.ref t1, .none, .none, .none, .bool false, .none] }) ⟨ho, rfl, rfl, hoD⟩ T.sa ?_
  refine put_more bx T I.kIn ho hns (within_of rel) (by rw [List.length_map]; omega) hno fun hq tq stay hn => k _ ?_
  refine I.write (t' := tq) (x := dx) (e := dx) (by rw [ed]; exact True.intro) (.inl rfl) stay ?_ (exd_ok hn (relO_put ry rel))
  obtain ⟨oq, _, _, hoq, _⟩ := hn
  exact ⟨oq, hoq⟩
end
/-- self.f = e, of an error that is being made -/
def tPut (K : PySem.W.Frag) (newId : String) (bmB : List Value) (fl : Str) (to te : TE) : TS := fun D σ H => te σ H fun y H1 => to σ H1 fun x H2 => ∃ a C : Addr, x = .ref a ∧ OexG K C newId bmB ∧ PySem.W.findIn K (.ref C) fl = some none ∧
  ((H2 a = some (exo a C none) ∧ ∀ dx, H2 dx = none → dx ≠ a → D.nx σ (upd (upd H2 dx (exd dx [(fl, y)])) a (exo a C (some dx)))) ∨
    ∃ (dx : Addr) (fs : List (Str × V)), (H2 a = some (exo a C (some dx)) ∧ H2 dx = some (exd dx fs) ∧ fs.length ≤ 900) ∧ D.nx σ (upd H2 dx (exd dx ((fl, y) :: fs))))
theorem ps_put {X : Cx} {o e : Expr} {to te : TE} {fl : Str} {p' pos : Pos} {B newId initId : String} {bmB : List Value} (bx : BasX B newId initId bmB) (ho : PE X o to) (he : PE X e te) (hs : swapsWith e (some (.Attribute o fl p')) pos.line X.env = pure false := by rfl) : PS X (.Assign [.Attribute o fl p'] e pos) (tPut X.K newId bmB fl to te) := by
  refine ⟨fun pins s σ H D I h => ?_⟩
  refine plainObj_wpAny_Assign_Attribute (thn (he.run pins s σ H _ I h) fun v s1 ⟨y, H1, I1, r1, q1⟩ => thn (ho.run pins s1 σ H1 _ I1 q1) fun ux s2 ⟨x, H2, I2, r2, hh⟩ => ?_) hs
  obtain ⟨a, C, rfl, T, hno, q⟩ := hh
  obtain rfl : ux = Value.ref a := r2
  rcases q with ⟨ea, q⟩ | ⟨dx, fs, ⟨ea, ed, hl⟩, q⟩
  · exact set_new bx T I2 ea hno r1 fun dx s' n ne J => ⟨σ, _, J, q dx n ne⟩
  · exact set_more bx T I2 ea ed hl hno r1 fun s' J => ⟨σ, _, J, q⟩
end Hs
namespace Hs
open PySem PySem.Spec PyProof.Rows L2
/-- what the written part says of an own error class over ValueError, of its __init__ and of what super() asks -/
structure SupC (P : Program) (K : PySem.W.Frag) (mg : Str → Option Value) (C c cc : Addr) (B newId initId : String) (bmB : List Value) : Prop where
  ox : OexG K C newId bmB
  code : ∃ (ccl : Value) (cdd : Option Addr) (vs : Array Value) (ccs : Array (Option Value)) (file : Str) (tf : Tok), K.lookup c = some ⟨ccl, cdd, .fields vs, ccs⟩ ∧ vs[2]? = some (.str file tf) ∧ ((P.main.file : Str) == file) = true
  cell : ∃ (cl : Value) (cld : Option Addr) (csl : Array (Option Value)), K.lookup cc = some ⟨cl, cld, .cell (some (.ref C)), csl⟩
  me : PySem.W.mroIn K C (.ref C) = some true
  sup : PySem.W.ks_superIn K C C "__init__" = some (some (.builtin initId))
  ve : PySem.W.subIn K (.ref C) (.type B) = some true
  op : PySem.W.nsIn K cStatics "thirdparty.any" = some none
  gs : mg "super" = none
  top : (P.main.scope.names.lookup ("super" : Str)).isSome = false
theorem sup_walk {X : Cx} {σ : L2.St} {H : Hp} {s : Shared} {C f c cc a : Addr} {fd : FuncData} {oc : Value} {od : Option Addr} {osl : Array (Option Value)} {ar : Arg} {body : List Stmt} {p0 p1 p2 p3 pos0 : Pos} {e : Expr} {ta : TA} {R : Hp → Prop} {pl : Sem Bool}
    {B newId initId : String} {bmB : List Value} (bx : BasX B newId initId bmB) (T : SupC X.prog X.K X.mg C c cc B newId initId bmB) (I : Inv X [] σ H s) (lk : X.K.lookup f = some ⟨oc, od, .func fd, osl⟩) (hp : (fd.params.posonlyargs ++ fd.params.args).head? = some ar)
    (hfu : X.env.func = some f) (hco : X.env.code = .ref c) (hce : X.env.cells.lookup ("__class__" : Str) = some cc) (hks : X.env.kindOf "super" = some .globalImplicit) (hkc : X.env.kindOf "__class__" = some .free) (hN0 : X.N[0]? = some ar.arg) (hl0 : X.env.kindOf ar.arg = some .local)
    (h0 : σ[0]? = some (some (.ref a))) (ea : H a = some (exo a C none)) (hPA : PA X [e] ta) (ht : ta σ H fun us H1 => us.length ≤ 1000 ∧ H1 a = some (exo a C none) ∧ R H1)
    (hst : starEach [e] X.env = [(false, eval e X.env)])
    (hi : interactive X.env = false := by rfl) (hsw : swapsWith (.Call (.Attribute (.Call (.Name "super" p0) [] [] p1) "__init__" p2) [e] [] p3) none pos0.line X.env = pure false := by rfl)
    (he : eval (.Call (.Attribute (.Call (.Name "super" p0) [] [] p1) "__init__" p2) [e] [] p3) X.env = (do
      let ov ← attributeBase (.Call (.Name "super" p0) [] [] p1) "__init__" X.env (eval (.Call (.Name "super" p0) [] [] p1) X.env)
      standAt p2.atName
      let (f, first) ← holding [ov] (getMethod ov "__init__" pl)
      callWith p3 f first (backTo p3 (starEach [e] X.env)) []) := by rfl) :
    _root_.PySem.wpAt (model X.prog X.w) X.A (.func body X.env) (exec (.Expr (.Call (.Attribute (.Call (.Name "super" p0) [] [] p1) "__init__" p2) [e] [] p3) pos0) X.env) (fun fl s' => fl = .next ∧ ∃ H1, Inv X [] σ H1 s' ∧ R H1) X.xe s := by
  obtain ⟨ccl, cdd, vsc, ccs, file, tf, hcode, hv2, hfile⟩ := T.code
  obtain ⟨cl0, cld0, csl0, hcell⟩ := T.cell
  obtain ⟨nm, q, Nn, bs, bm, sn, sub, ab, col, dd, k0, k1, k2, k3, k5, hC, hbm⟩ := T.ox.cls
  have hcl : PySem.W.clsIn X.K C = some { name := nm, bases := bs, mro := .ref C :: bm, ns := Nn, qualname := q, hasDict := true, slotNames := sn, subclasses := sub, abstract := ab, collection := col, hasDel := false } := by unfold PySem.W.clsIn; rw [hC] <;> rfl
  have KX := I.kIn
  obtain ⟨t1, ho⟩ := exo_at I.hok ea
  have hkind := I.ok.kind
  obtain ⟨mb, hb1, hb2⟩ := I.mod.blt
  obtain ⟨m, hns, hloc⟩ := id I.loc
  obtain ⟨u0, ru, lk0⟩ := hloc 0 ar.arg (.ref a) hN0 h0 (.inl hl0)
  obtain rfl : u0 = Value.ref a := ru
  have hself : m ar.arg = some (.ref a) := by
    rcases lk0 with ⟨_, z⟩ | ⟨z | z, _⟩
    · exact z
    · rw [hl0] at z
      cases z
    · rw [hl0] at z
      cases z
  have hDo := KX _ _ hC
  obtain ⟨hp0, g0, d0, tk0, os0⟩ := s
  refine ks_wpAt_Expr_any (ks_wpAt_MethodCall (pl := pl) ?_ he) hi hsw
  refine ks_wpAt_super_base (env := X.env) hks hkc (by decide) hfu (KX _ _ lk) rfl hp hco (KX _ _ hcode) rfl hv2 hfile T.top ?_
  refine PySem.W.ks_loadName_global hkind hks (Calls.loadGlobal_builtin (env := X.env) (by rw [I.ok.glob]; exact I.mod.glob.keeps I.bk) T.gs (by rw [I.ok.blt]; exact hb1.keeps I.bk) ((hb2 "super" (by decide)).trans (by decide +kernel)) ⟨rfl, ?_⟩)
  refine wpAny_loadName_free hkind hkc hce ⟨_, KX _ _ hcell, rfl⟩ ?_
  refine wpAny_loadName_local hkind hl0 hns hself ?_
  refine ks_wpAny_isType_cls hDo rfl ⟨rfl, ?_⟩
  refine ks_wpAny_call_super hDo rfl ho rfl (fun _ z => by cases z) (PySem.W.looks_mroIn KX T.me) fun h1 e1 kp1 => ?_
  have I1 : Inv X [] σ H ⟨h1, g0, d0, tk0, os0⟩ := I.kept (t' := tk0) kp1
  have KX1 := I1.kIn
  obtain ⟨t2, ho1⟩ := exo_at I1.hok ea
  have hI : PySem.W.Looks (model X.prog X.w) h1 (isInstance (.ref a) (.type B)) true := (show PySem.W.InstAt h1 a _ C none from ⟨ho1, rfl, rfl, trivial⟩).type.andThen (PySem.W.looks_subIn KX1 T.ve)
  have hmro : PySem.W.Looks (model X.prog X.w) h1 (mroOf (.ref C)) (.ref C :: bm) := (PySem.W.looks_clsIn KX1 hcl).andThen .now
  have hsupr := T.sup
  unfold PySem.W.ks_superIn at hsupr
  rw [hcl] at hsupr
  have hxC : a ≠ C := fun z => by
    have w1 := KX1 _ _ hC
    rw [← z, ho1] at w1
    cases w1
  refine PySem.W.kxs_getMethod bx.kx e1 (PySem.W.looks_opaque KX1 T.op) hmro rfl KX1 hsupr hI hxC (by decide) ?_
  have kp2 : ∀ b o, h1.get? b = some o → (h1.push (PySem.W.kxs_mw initId a)).get? b = some o := fun b o z => Heap.get?_push_of_some _ z
  have I2 : Inv X [] σ H ⟨h1.push (PySem.W.kxs_mw initId a), g0, d0, tk0 + 1, os0⟩ := I1.kept (t' := tk0 + 1) kp2
  have hu2 : (h1.push (PySem.W.kxs_mw initId a)).get? h1.objs.size = some (PySem.W.kxs_mw initId a) := Heap.get?_push_at rfl rfl
  have nu : H h1.objs.size = none := I1.hok.fresh (Nat.le_refl _)
  have I3 : Inv X [(h1.objs.size, PySem.W.kxs_mw initId a)] σ H ⟨h1.push (PySem.W.kxs_mw initId a), g0, d0, tk0 + 1, os0⟩ := I2.pins_of fun p hp => by
    rcases List.mem_cons.mp hp with z | z
    · subst z
      exact ⟨hu2, nu, fun z => Nat.lt_irrefl _ (z ▸ I1.lt), I1.nofs (Nat.le_refl _), fun v z => by cases z⟩
    · cases z
  show wpAny _ _ (callWith p3 (.ref h1.objs.size) [] (backTo p3 (starEach [e] X.env)) []) _ _ _
  have run := hPA.run p3 _ _ σ H _ I3 ht
  rw [hst] at run ⊢
  refine PySem.W.kxs_callWith (i := initId) (x := a) rfl (Calls.evalArgs_plain (wpAny_mono run (fun us s2 z => ?_) fun _ _ z => z))
  obtain ⟨vs2, H2, I4, r4, hz, ea2, hR⟩ := z
  have hu4 := (I4.pin (h1.objs.size, PySem.W.kxs_mw initId a) (List.mem_append_right _ (List.mem_cons_self ..))).1
  obtain ⟨t4, ho4⟩ := exo_at I4.hok ea2
  have hlen : us.length ≤ sizeLine := by
    rw [← Paired.length r4, sizeLine_eq]
    omega
  obtain ⟨hp4, g4, d4, tk4, os4⟩ := s2
  refine ⟨hu4, call_mw bx.eb (I4.kIn _ _ hC) ho4 hu4 hlen fun h' t5 k5 hx5 => ⟨rfl, H2, ?_, hR⟩⟩
  have J := I4.write (t' := tk4) (x := a) (e := a) (o := exo a C none) (by rw [ea2]; exact True.intro) (.inl rfl) k5 ⟨_, hx5⟩ (exo_ok hx5)
  have eu : upd H2 a (exo a C none) = H2 := by
    funext b
    by_cases hb : b = a
    · rw [hb, upd_same, ea2]
    · rw [upd_ne hb]
  rw [eu] at J
  exact J.pins_of fun p hp => by cases hp
theorem sup_ok {P : Program} {w : World} {K : PySem.W.Frag} {mg : Str → Option Value} {base : Heap} {k : Nat} {N ps : List Str} {C f c cc : Addr} {name qual : Str} {params : Arguments} {p0 p1 p2 p3 pos0 : Pos} {e : Expr} {rest : List Stmt} {scope : Scope}
    {dV kV doc pm ct oc : Value} {an od : Option Addr} {osl : Array (Option Value)} {ar : Arg} {sp : Sp} {pl : Addr → Sem Bool} {B newId initId : String} {bmB : List Value} (bx : BasX B newId initId bmB) (T : SupC P K mg C c cc B newId initId bmB)
    (lk : K.lookup f = some ⟨oc, od, .func (PySem.W.fnX name qual params (.Expr (.Call (.Attribute (.Call (.Name "super" p0) [] [] p1) "__init__" p2) [e] [] p3) pos0 :: rest) scope [("__class__", cc)] dV kV doc pm an (.ref c) ct), osl⟩)
    (hcd : PySem.W.codeIn K (.ref c) qual = true) (S : NdefX.NScope N ps ["__class__"] scope) (hks : scope.names.lookup ("super" : Str) = some .globalImplicit)
    (hp : (params.posonlyargs ++ params.args).head? = some ar) (hN0 : N[0]? = some ar.arg) (hl0 : scope.names.lookup ar.arg = some .local) (len : ∀ vs H Q E, sp vs H Q E → vs.length = ps.length)
    (hbody : ∀ (A : Around) (outer : List Env) (s : Shared) (H : Hp) (vs : List V) (Q : VK) (E : XK), Room k (A.deeper (NdefX.envF ⟨name, qual, params, [], scope, [("__class__", cc)], c⟩ f s.heap.objs.size)) → sp vs H Q E →
      ∃ (a : Addr) (ta : TA) (t : TS), (NdefX.startF N vs [none])[0]? = some (some (.ref a)) ∧ H a = some (exo a C none) ∧ PA (NdefX.ncx CX0 P w K mg base N ⟨name, qual, params, [], scope, [("__class__", cc)], c⟩ f A outer s H E).nox [e] ta ∧
        PSs (NdefX.ncx CX0 P w K mg base N ⟨name, qual, params, [], scope, [("__class__", cc)], c⟩ f A outer s H E).nox rest t ∧
        ta (NdefX.startF N vs [none]) H fun us H1 => us.length ≤ 1000 ∧ H1 a = some (exo a C none) ∧ t { nx := fun _ H' => Q .non H', rt := Q } (NdefX.startF N vs [none]) H1)
    (hst : ∀ env : Env, starEach [e] env = [(false, eval e env)]) (hi : ∀ L : Addr, interactive (NdefX.envF ⟨name, qual, params, [], scope, [("__class__", cc)], c⟩ f L) = false)
    (hsw : ∀ L : Addr, swapsWith (.Call (.Attribute (.Call (.Name "super" p0) [] [] p1) "__init__" p2) [e] [] p3) none pos0.line (NdefX.envF ⟨name, qual, params, [], scope, [("__class__", cc)], c⟩ f L) = pure false)
    (he : ∀ L : Addr, eval (.Call (.Attribute (.Call (.Name "super" p0) [] [] p1) "__init__" p2) [e] [] p3) (NdefX.envF ⟨name, qual, params, [], scope, [("__class__", cc)], c⟩ f L) = (do
      let ov ← attributeBase (.Call (.Name "super" p0) [] [] p1) "__init__" (NdefX.envF ⟨name, qual, params, [], scope, [("__class__", cc)], c⟩ f L) (eval (.Call (.Name "super" p0) [] [] p1) (NdefX.envF ⟨name, qual, params, [], scope, [("__class__", cc)], c⟩ f L))
      standAt p2.atName
      let (ff, first) ← holding [ov] (getMethod ov "__init__" (pl L))
      callWith p3 ff first (backTo p3 (starEach [e] (NdefX.envF ⟨name, qual, params, [], scope, [("__class__", cc)], c⟩ f L))) [])) :
    FnOk P w K mg base CX0 (k + 1) f (PySem.W.fnX name qual params (.Expr (.Call (.Attribute (.Call (.Name "super" p0) [] [] p1) "__init__" p2) [e] [] p3) pos0 :: rest) scope [("__class__", cc)] dV kV doc pm an (.ref c) ct) ps sp := by
  refine ⟨len, fun A outer s H args us vs Q E hr e0 hb r hsp => ?_⟩
  have hl := len _ _ _ _ hsp
  have bk : ∀ b o, base.get? b = some o → s.heap.get? b = some o := fun b o e => (e0.bs b o e).1
  have KX : K.In s.heap := e0.mod.kin.keeps bk
  have lim : s.heap.NoLimit := e0.mod.nolimit.keeps bk
  obtain ⟨cl0, cld0, csl0, hcell⟩ := T.cell
  have CA : NdefX.CellsAt [(("__class__" : Str), cc)] ["__class__"] [none] s.heap H := by
    have bc := e0.mod.kin cc _ hcell
    have z := e0.bs cc _ bc
    have only : ∀ y c', ([(("__class__" : Str), cc)] : List (Str × Addr)).lookup y = some c' → y = "__class__" ∧ c' = cc := fun y c' h => by
      have m := PySem.mem_of_lookup h
      rcases List.mem_cons.mp m with q | q
      · injection q with q1 q2
        exact ⟨q1, q2⟩
      · cases q
    refine ⟨rfl, fun y c' h => ?_, fun x y c' h1 h2 => (only x c' h1).1.trans (only y c' h2).1.symm, fun i y h => ?_⟩
    · obtain ⟨_, rfl⟩ := only y c' h
      exact ⟨z.2, _, _, z.1, rfl⟩
    · cases i with
      | zero =>
        have e : "__class__" = y := Option.some.inj h
        subst e
        exact ⟨cc, by simp [List.lookup], fun v hv => by cases hv⟩
      | succ i => cases h
  obtain ⟨a, ta, t, h0, hHa, hPA, hPS, ht⟩ := hbody A outer s H vs Q E (hr.deeper _) hsp
  refine ks_codeAny_call_defAt (binds := ps.zip us) hr.depth (KX _ _ lk) rfl lim (PySem.W.codeRec_of KX hcd) rfl hb S.nocell (fun ⟨n, _⟩ hy => S.par n (List.of_mem_zip hy).1) (fun h₁ hns kp => ?_) S.co S.gen S.kind
  have I : Inv (NdefX.ncx CX0 P w K mg base N ⟨name, qual, params, [], scope, [("__class__", cc)], c⟩ f A outer s H E).nox [] (NdefX.startF N vs [none]) H { s with heap := h₁, toks := s.toks + (ps.zip us).length } :=
    (NdefX.inv_startN (F := ⟨name, qual, params, [], scope, [("__class__", cc)], c⟩) S hr.hd e0 hl r CA hns kp).wish _
  refine ks_wpAt_execs_cons (ks_wpAt_mono (sup_walk (X := (NdefX.ncx CX0 P w K mg base N ⟨name, qual, params, [], scope, [("__class__", cc)], c⟩ f A outer s H E).nox) (R := fun H1 => t { nx := fun _ H' => Q .non H', rt := Q } (NdefX.startF N vs [none]) H1)
    bx T I lk hp rfl rfl rfl hks (S.frk _ (by simp)) hN0 hl0 h0 hHa hPA ht (hst _) (hi _) (hsw _) (he _)) (fun fl s' z => ?_) fun _ _ z => z.elim)
  obtain ⟨rfl, H1, J, hR⟩ := z
  refine wpAt_of_wpAny (wpAny_mono (hPS.run [] s' _ H1 _ J hR) (fun fl s2 z => ?_) fun _ _ z => z.elim)
  have fin : ∀ {σ' : L2.St} {H' : Hp} {v : V} {u : Value}, Inv (NdefX.ncx CX0 P w K mg base N ⟨name, qual, params, [], scope, [("__class__", cc)], c⟩ f A outer s H E).nox [] σ' H' s2 → RelV v u → Q v H' → CE outer P w H s Q u s2 :=
    fun {σ' H' v u} J rv q => ⟨v, H', J.os, J.bare, J.base, J.hok, rv, q⟩
  cases fl with
  | ret u =>
    obtain ⟨v, σ', H', J, rv, q⟩ := z
    exact fin J rv q
  | next =>
    obtain ⟨σ', H', J, q⟩ := z
    exact fin (v := V.non) (u := Value.none) J rfl q
  | brk =>
    obtain ⟨_, _, _, q⟩ := z
    exact False.elim q
  | cont =>
    obtain ⟨_, _, _, q⟩ := z
    exact False.elim q
end Hs
namespace Hs
open PySem PySem.Spec PyProof.Rows L2 Evl
/-- C(), C's own __init__ keeping sp -/
theorem pmk_oex0 {X : Cx} {CX : CXT} {x : Str} {C fI : Addr} {k : Nat} {fd : FuncData} {ps : List Str} {sp : Sp} {ds : List Value} {dvs : List V} {p pos : Pos} {B newId initId : String} {bmB : List Value} (bx : BasX B newId initId bmB) (T : OexG X.K C newId bmB) (iC : PySem.W.findIn X.K (.ref C) "__init__" = some (some (.ref fI))) (tI : PySem.W.typeIn X.K (.ref fI) = some (.type "function"))
    (F1 : FnOk X.prog X.w X.K X.mg X.base CX k fI fd ps sp) (hr : Room (k + 1) X.A) (hb : Binds X.K fd ps ds) (hd : Vals dvs ds) (hx : Passes CX X (fun _ _ _ => False)) (hg : Gl X x) (hm : X.mg x = some (.ref C))
    (hdb : (x == ("__debug__" : Str)) = false := by decide) : PMk X (.Call (.Name x p) [] [] pos) (tMkO C sp dvs tNil) := by
  intro pins s σ H Q I h
  obtain ⟨nm, q, N, bs, bm, sn, sub, ab, col, dd, k0, k1, k2, k3, k5, hC, hbm⟩ := T.cls
  refine wpAny_Call_Name_kw (ld_glob I hg hm ?_ hdb)
  refine PySem.W.callWith_K0 I.kIn T.kC ?_
  show wpAny _ _ (call (.ref C) []) _ _ _
  obtain ⟨hp, g, dr, tk, os⟩ := s
  have hsz : hp.objs.size ≤ hp.objs.size + 1 := Nat.le_succ _
  have hn : H (hp.objs.size + 1) = none := I.hok.fresh hsz
  have hq := h.2 (hp.objs.size + 1) hn
  have kk : ∀ b o, hp.get? b = some o → ((hp.push (PySem.W.kdv_tup [])).push (PySem.HandSPX.excO C hp.objs.size)).get? b = some o := fun b o e => Heap.get?_push_of_some _ (Heap.get?_push_of_some _ e)
  have hget : ((hp.push (PySem.W.kdv_tup [])).push (PySem.HandSPX.excO C hp.objs.size)).get? (hp.objs.size + 1) = some (PySem.HandSPX.excO C hp.objs.size) := by heap_get
  have I2 : Inv X pins σ (upd H (hp.objs.size + 1) (exo (hp.objs.size + 1) C none)) ⟨(hp.push (PySem.W.kdv_tup [])).push (PySem.HandSPX.excO C hp.objs.size), g, dr, tk, os⟩ :=
    I.laid (t' := tk) (a := hp.objs.size + 1) (o := exo (hp.objs.size + 1) C none) (h' := (hp.push (PySem.W.kdv_tup [])).push (PySem.HandSPX.excO C hp.objs.size)) kk hsz (exo_ok hget)
  have r2 : Vals (V.ref (hp.objs.size + 1) :: ([] ++ dvs)) ([Value.ref (hp.objs.size + 1)] ++ ds) := .cons rfl hd
  have hl : (Value.ref (hp.objs.size + 1) :: [] ++ ds).length = ps.length := by
    have e := r2.length
    rw [F1.len _ _ _ _ hq] at e
    exact e.symm
  refine wpAny_call (PySem.HandSPX.call_own bx.eb (fun Y => PySem.W.excTail_contains Y bm hbm) (I.kIn _ _ hC) (PySem.W.looks_findIn I.kIn iC) (fun self => PySem.W.bind_fn I.kIn self tI) (Nat.zero_le _)
    (codeAny_mono (F1.run _ X.stack _ _ ⟨[Value.ref (hp.objs.size + 1)], []⟩ ([Value.ref (hp.objs.size + 1)] ++ ds) _ _ (fun _ _ _ => False) (hr.make C [] []) (I2.env0.make C [] []) (hb _ [Value.ref (hp.objs.size + 1)] I2.kIn hl) r2 hq) fun r s' hq' => ?_))
  cases r with
  | error er => exact hx pins σ _ _ er s' I2 hq'
  | ok fl =>
    cases fl with
    | ret u =>
      obtain ⟨v, H2, os2, bare2, un2, hok2, rv, ev, d, fs, ea, ed, hd1, q2⟩ := hq'
      subst ev
      obtain ⟨h2, g2, d2, t2, os'⟩ := s'
      exact ⟨rv, mk_end (raises_own T.exC T.tyC) I hsz kk un2 hok2 os2 bare2 ea ed hd1 q2⟩
    | next => exact False.elim hq'
    | brk => exact False.elim hq'
    | cont => exact False.elim hq'
/-- __init__ of an error with its word alone -/
def spErr (C : Addr) (wd : Str) : Sp := fun vs H Q _ => ∃ (a : Addr) (y : V), vs = [.ref a, y] ∧ H a = some (exo a C none) ∧ ∀ dx, H dx = none → dx ≠ a → Q .non (upd (upd H dx (exd dx [("word", .str wd)])) a (exo a C (some dx)))
/-- raise C(): the word in the error's own dict -/
theorem mk_err {C : Addr} {wd : Str} {y : V} {σ : L2.St} {H : Hp} {Q : XK} (h : ∀ d H', Ex H H' → H d = none → H' d = some (.xd [("word", .str wd)]) → Q (.ref C) (some d) H') : tMkO C (spErr C wd) [y] tNil σ H Q := by
  refine ⟨Nat.zero_le _, fun a na => ⟨a, y, rfl, upd_same, fun dx nd ne => ⟨rfl, dx, [("word", .str wd)], upd_same, ?_, ?_, ?_⟩⟩⟩
  · rw [upd_ne ne, upd_same]
  · rw [upd_ne ne] at nd
    exact nd
  · have nd' : H dx = none := by
      rw [upd_ne ne] at nd
      exact nd
    refine h dx _ (fun b o e => ?_) nd' upd_same
    have nb : b ≠ dx := ne_of_none e nd'
    have na' : b ≠ a := ne_of_none e na
    rw [upd_ne nb, del_ne na', upd_ne na', upd_ne nb, upd_ne na']
    exact e
end Hs
namespace Hs
open PySem PySem.Spec PyProof.Rows L2 Evl
/-- an own error class x at C with the word wd alone, as it stands -/
structure ErrF (P : Program) (w : World) (K : PySem.W.Frag) (mg : Str → Option Value) (base : Heap) (k : Nat) (x : Str) (C : Addr) (wd : Str) : Prop where
  ox : ∃ (B newId initId : String) (bmB : List Value), BasX B newId initId bmB ∧ OexG K C newId bmB
  gx : mg x = some (.ref C)
  ini : ∃ (fI : Addr) (fd : FuncData) (ps : List Str) (y : V) (d : Value), PySem.W.findIn K (.ref C) "__init__" = some (some (.ref fI)) ∧ PySem.W.typeIn K (.ref fI) = some (.type "function") ∧ FnOk P w K mg base CX0 k fI fd ps (spErr C wd) ∧ RelV y d ∧ Binds K fd ps [d]
theorem pmk_err {X : Cx} {k j : Nat} {x : Str} {C : Addr} {wd : Str} {p pos : Pos} (Er : ErrF X.prog X.w X.K X.mg X.base k x C wd) (hr : Room j X.A) (hk : k + 1 ≤ j) (hg : Gl X x) (hdb : (x == ("__debug__" : Str)) = false := by decide) :
    PMk X (.Call (.Name x p) [] [] pos) (fun _ H Q => ∀ d H', Ex H H' → H d = none → H' d = some (.xd [("word", .str wd)]) → Q (.ref C) (some d) H') := by
  obtain ⟨fI, fd, ps, y, d, h1, h2, h3, h4, h5⟩ := Er.ini
  obtain ⟨B, newId, initId, bmB, bx, ox⟩ := Er.ox
  intro pins s σ H Q I h
  exact pmk_oex0 bx ox h1 h2 h3 (hr.mono hk) h5 (.cons h4 .nil) (fun _ _ _ _ _ _ _ z => z.elim) hg Er.gx hdb pins s σ H Q I (mk_err h)
/-- the def st of a class's body, closed over __class__ at cc, its code object at c -/
def InitAt (K : PySem.W.Frag) (qual : Str) (st : Stmt) (f c cc : Addr) (dvs : List V) (fd : FuncData) : Prop :=
  ∃ (oc : Value) (od : Option Addr) (dV kV doc pm : Value) (an : Option Addr) (ct : Value) (osl : Array (Option Value)), fd = PySem.W.fnX "__init__" qual (defArgs st) (defBody st) (defScope st) [("__class__", cc)] dV kV doc pm an (.ref c) ct ∧
    K.lookup f = some ⟨oc, od, .func fd, osl⟩ ∧ PySem.W.codeIn K (.ref c) qual = true ∧ DflV K dV dvs
/-- __init__(self, why=..): super().__init__(why); self.word = '..' -/
theorem err_ok {P : Program} {w : World} {K : PySem.W.Frag} {mg : Str → Option Value} {base : Heap} {C f c cc : Addr} {fd : FuncData} {qual wd : Str} {st : Stmt} {y : V} {p0 p1 p2 p3 p4 pos0 p5 p6 p7 p8 : Pos} {kd : Nat} {ar : Arg} {B newId initId : String} {bmB : List Value} (bx : BasX B newId initId bmB) (T : SupC P K mg C c cc B newId initId bmB) (I0 : InitAt K qual st f c cc [y] fd)
    (hno : PySem.W.findIn K (.ref C) "word" = some none)
    (hbd : defBody st = [.Expr (.Call (.Attribute (.Call (.Name "super" p0) [] [] p1) "__init__" p2) [.Name "why" p4] [] p3) pos0, .Assign [.Attribute (.Name "self" p5) "word" p6] (.Constant (.str wd) kd p7) p8])
    (S : NdefX.NScope ["self", "why", "__class__"] ["self", "why"] ["__class__"] (defScope st)) (hks : (defScope st).names.lookup ("super" : Str) = some .globalImplicit)
    (hp : ((defArgs st).posonlyargs ++ (defArgs st).args).head? = some ar) (har : ar.arg = "self") (hl0 : (defScope st).names.lookup ("self" : Str) = some .local) (hl1 : (defScope st).names.lookup ("why" : Str) = some .local) {pl : Addr → Sem Bool}
    (hi : ∀ L : Addr, interactive (NdefX.envF ⟨"__init__", qual, defArgs st, [], defScope st, [("__class__", cc)], c⟩ f L) = false)
    (hsw : ∀ L : Addr, swapsWith (.Call (.Attribute (.Call (.Name "super" p0) [] [] p1) "__init__" p2) [.Name "why" p4] [] p3) none pos0.line (NdefX.envF ⟨"__init__", qual, defArgs st, [], defScope st, [("__class__", cc)], c⟩ f L) = pure false)
    (hs2 : ∀ L : Addr, swapsWith (.Constant (.str wd) kd p7) (some (.Attribute (.Name "self" p5) "word" p6)) p8.line (NdefX.envF ⟨"__init__", qual, defArgs st, [], defScope st, [("__class__", cc)], c⟩ f L) = pure false)
    (he : ∀ L : Addr, eval (.Call (.Attribute (.Call (.Name "super" p0) [] [] p1) "__init__" p2) [.Name "why" p4] [] p3) (NdefX.envF ⟨"__init__", qual, defArgs st, [], defScope st, [("__class__", cc)], c⟩ f L) = (do
      let ov ← attributeBase (.Call (.Name "super" p0) [] [] p1) "__init__" (NdefX.envF ⟨"__init__", qual, defArgs st, [], defScope st, [("__class__", cc)], c⟩ f L) (eval (.Call (.Name "super" p0) [] [] p1) (NdefX.envF ⟨"__init__", qual, defArgs st, [], defScope st, [("__class__", cc)], c⟩ f L))
      standAt p2.atName
      let (ff, first) ← holding [ov] (getMethod ov "__init__" (pl L))
      callWith p3 ff first (backTo p3 (starEach [.Name "why" p4] (NdefX.envF ⟨"__init__", qual, defArgs st, [], defScope st, [("__class__", cc)], c⟩ f L))) []))
    (hst : ∀ env : Env, starEach [.Name "why" p4] env = [(false, eval (.Name "why" p4) env)]) :
    FnOk P w K mg base CX0 1 f fd ["self", "why"] (spErr C wd) := by
  obtain ⟨oc, od, dV, kV, doc, pm, an, ct, osl, rfl, lk, hcd, _⟩ := I0
  rw [hbd] at lk ⊢
  refine sup_ok (k := 0) (N := ["self", "why", "__class__"]) bx T lk hcd S hks hp (by rw [har] <;> rfl) (by rw [har]; exact hl0) (fun vs H Q E h => ?_) (fun A outer s H vs Q E hr h => ?_) hst hi hsw he
  · obtain ⟨a, y, rfl, _⟩ := h
    rfl
  · obtain ⟨a, y, rfl, ha, k⟩ := h
    refine ⟨a, tCons (tVar 1) tNil, tPut K newId bmB "word" (tVar 0) (tC (.str wd)), rfl, ha, pa_cons (pv 1 rfl (.inl hl1)) pa_nil (hst _), pss_one (ps_put bx (pv 0 rfl (.inl hl0)) pe_str (hs2 _)), ?_⟩
    exact ⟨y, rfl, Nat.succ_le_succ (Nat.zero_le _), ha, .ref a, rfl, a, C, rfl, T.ox, hno, .inl ⟨ha, fun dx n ne => k dx n ne⟩⟩
end Hs
namespace Hs
open PySem PySem.Spec PyProof.Rows L2 Evl
/-! ### the head: what the run of the top leaves -/
def oclsB (K : PySem.W.Frag) (C : Addr) (newId : String) (bmB : List Value) : Bool := match K.lookup C with
  | some ⟨.type "type", _, .cls cd, sl⟩ => (match cd.mro, sl.toList with
    | .ref C' :: bm, [_, _, _, _, some (.builtin n), _] => C' == C && n == newId && !cd.hasDel && cd.hasDict && PySem.W.excTail bmB bm
    | _, _ => false)
  | _ => false
theorem ocls_of {K : PySem.W.Frag} {C : Addr} {newId : String} {bmB : List Value} (q : oclsB K C newId bmB = true) : ∃ nm q N bs bm sn sub ab col dd k0 k1 k2 k3 k5, K.lookup C = some (excClassObj nm q C N bs bm true sn sub ab col dd k0 k1 k2 k3 k5 newId) ∧ PySem.W.excTail bmB bm = true := by
  unfold oclsB at q
  split at q
  · rename_i dd cd sl ho
    split at q
    · rename_i C' bm k0 k1 k2 k3 n k5 hm hs
      simp only [Bool.and_eq_true, beq_iff_eq, Bool.not_eq_true'] at q
      obtain ⟨⟨⟨⟨rfl, rfl⟩, hdel⟩, hdc⟩, ht⟩ := q
      obtain ⟨nm, bs, mro, ns, qn, hd, sn, sub, ab, col, del⟩ := cd
      dsimp only at hm hdel hdc
      subst hm hdel hdc
      have hsl : sl = #[k0, k1, k2, k3, some (.builtin n), k5] := by
        obtain ⟨l⟩ := sl
        simp only at hs
        rw [hs]
      subst hsl
      exact ⟨nm, qn, ns, bs, bm, sn, sub, ab, col, dd, k0, k1, k2, k3, k5, ho, ht⟩
    · cases q
  · cases q
def oexB (K : PySem.W.Frag) (C : Addr) (newId : String) (bmB : List Value) : Bool := oclsB K C newId bmB && (He.eqO (PySem.W.findIn K (.ref C) "__setattr__") (some (some (.builtin "object.__setattr__"))) && (decide (PySem.W.subIn K (.ref C) (.type "BaseException") = some true) && (decide (PySem.W.typeIn K (.ref C) = some (.type "type")) && PySem.W.keepIn K (.ref C))))
theorem oexB_ok {K : PySem.W.Frag} {C : Addr} {newId : String} {bmB : List Value} (h : oexB K C newId bmB = true) : OexG K C newId bmB := by
  obtain ⟨h1, h⟩ := He.ba h
  obtain ⟨h2, h⟩ := He.ba h
  obtain ⟨h3, h⟩ := He.ba h
  obtain ⟨h4, h5⟩ := He.ba h
  exact ⟨ocls_of h1, He.eqO_ok h2, of_decide_eq_true h3, of_decide_eq_true h4, h5⟩
/-- an own error: its class's name, the def of its __init__, its default, the file of its code -/
structure ErrD where
  cls : Str
  qual : Str
  st : Stmt
  why : Str
  file : Str
  bas : String
  nid : String
  iid : String
abbrev FnC : Type := Option (Str × Str × Arguments × FuncBody × Scope × Addr × List Str × Addr)
def iniA (K : PySem.W.Frag) (x : Str) : Addr := He.ma K (He.ga K x) "__init__"
def fnC (K : PySem.W.Frag) (x : Str) : FnC := match K.lookup (iniA K x) with
  | some ⟨_, _, .func fd, _⟩ => some (fd.name, fd.qualname, fd.params, fd.body, fd.scope, fd.globals, fd.closure.map (·.1), fd.builtins)
  | _ => none
def ErrD.val (d : ErrD) : FnC := some ("__init__", d.qual, defArgs d.st, .stmts (defBody d.st), defScope d.st, mainGlobals, ["__class__"], builtinsNs)
def fileB (K : PySem.W.Frag) (c : Addr) (file : Str) : Bool := match K.lookup c with
  | some ⟨_, _, .fields vs, _⟩ => (match (vs[2]? : Option Value) with
    | some (.str f _) => file == f
    | _ => false)
  | _ => false
def cellB (K : PySem.W.Frag) (cc C : Addr) : Bool := match K.lookup cc with
  | some ⟨_, _, .cell (some (.ref C')), _⟩ => decide (C' = C)
  | _ => false
def fileV (K : PySem.W.Frag) (file : Str) : Value → Bool
  | .ref c => fileB K c file
  | _ => false
def cloB (K : PySem.W.Frag) (C : Addr) : List (Str × Addr) → Bool
  | [(_, cc)] => cellB K cc C
  | _ => false
/-- the __init__ of d: its code object, its cell -/
def iniB (K : PySem.W.Frag) (d : ErrD) : Bool := match K.lookup (iniA K d.cls) with
  | some ⟨_, _, .func fd, _⟩ => PySem.W.codeIn K fd.code d.qual && (He.dflB K fd.defaults [.str d.why] && (fileV K d.file fd.code && cloB K (He.ga K d.cls) fd.closure))
  | _ => false
def errB (K : PySem.W.Frag) (d : ErrD) : Bool := oexB K (He.ga K d.cls) d.nid (tailOf d.bas) && (iniB K d && (decide (PySem.W.mroIn K (He.ga K d.cls) (.ref (He.ga K d.cls)) = some true) && (He.eqO (PySem.W.ks_superIn K (He.ga K d.cls) (He.ga K d.cls) "__init__") (some (some (.builtin d.iid))) &&
  (decide (PySem.W.subIn K (.ref (He.ga K d.cls)) (.type d.bas) = some true) && (He.eqO (PySem.W.nsIn K cStatics "thirdparty.any") (some none) && (He.eqO (PySem.W.findIn K (.ref (He.ga K d.cls)) "__init__") (some (some (.ref (iniA K d.cls)))) &&
  (decide (PySem.W.typeIn K (.ref (iniA K d.cls)) = some (.type "function")) && He.eqO (PySem.W.findIn K (.ref (He.ga K d.cls)) "word") (some none))))))))
theorem fileB_ok {K : PySem.W.Frag} {c : Addr} {file : Str} (h : fileB K c file = true) : ∃ (ccl : Value) (cdd : Option Addr) (vs : Array Value) (ccs : Array (Option Value)) (f : Str) (tf : Tok), K.lookup c = some ⟨ccl, cdd, .fields vs, ccs⟩ ∧ vs[2]? = some (.str f tf) ∧ (file == f) = true := by
  unfold fileB at h
  split at h
  · rename_i ccl cdd vs ccs hk
    split at h
    · rename_i f tf hv
      exact ⟨ccl, cdd, vs, ccs, f, tf, hk, hv, h⟩
    · cases h
  · cases h
theorem cellB_ok {K : PySem.W.Frag} {cc C : Addr} (h : cellB K cc C = true) : ∃ (cl : Value) (cld : Option Addr) (csl : Array (Option Value)), K.lookup cc = some ⟨cl, cld, .cell (some (.ref C)), csl⟩ := by
  unfold cellB at h
  split at h
  · rename_i cl cld C' csl hk
    have e : C' = C := of_decide_eq_true h
    subst e
    exact ⟨cl, cld, csl, hk⟩
  · cases h
theorem iniB_ok {K : PySem.W.Frag} {d : ErrD} (e : fnC K d.cls = d.val) (h : iniB K d = true) :
    ∃ (c cc : Addr) (fd : FuncData), InitAt K d.qual d.st (iniA K d.cls) c cc [.str d.why] fd ∧ (∃ (ccl : Value) (cdd : Option Addr) (vs : Array Value) (ccs : Array (Option Value)) (f : Str) (tf : Tok), K.lookup c = some ⟨ccl, cdd, .fields vs, ccs⟩ ∧ vs[2]? = some (.str f tf) ∧ (d.file == f) = true) ∧
      ∃ (cl : Value) (cld : Option Addr) (csl : Array (Option Value)), K.lookup cc = some ⟨cl, cld, .cell (some (.ref (He.ga K d.cls))), csl⟩ := by
  unfold fnC at e
  unfold iniB at h
  cases q : K.lookup (iniA K d.cls) with
  | none =>
    rw [q] at h
    cases h
  | some o =>
    obtain ⟨oc, od, dt, osl⟩ := o
    rw [q] at h e
    cases dt with
    | func fd =>
      obtain ⟨n1, n2, n3, n4, n5, n6, n7, n8, n9, n10, n11, n12, n13, n14, n15⟩ := fd
      have e2 : (some (n1, n2, n3, n4, n5, n6, n7.map (·.1), n15) : FnC) = (some (("__init__" : Str), d.qual, defArgs d.st, FuncBody.stmts (defBody d.st), defScope d.st, mainGlobals, [("__class__" : Str)], builtinsNs) : FnC) := e
      simp only [Option.some.injEq, Prod.mk.injEq] at e2
      obtain ⟨h1, h2, h3, h4, h5, h6, h7, h8⟩ := e2
      subst h1 h2 h3 h4 h5 h6 h8
      have h0 : (PySem.W.codeIn K n13 d.qual && (He.dflB K n8 [.str d.why] && (fileV K d.file n13 && cloB K (He.ga K d.cls) n7))) = true := h
      obtain ⟨k1, h0⟩ := He.ba h0
      obtain ⟨k2, h0⟩ := He.ba h0
      obtain ⟨k3, k4⟩ := He.ba h0
      obtain ⟨c, rfl⟩ := He.codeIn_ref k1
      clear e h
      cases n7 with
      | nil => cases h7
      | cons z r =>
        cases r with
        | cons z2 r2 =>
          injection h7 with _ h9
          cases h9
        | nil =>
          obtain ⟨y, cc⟩ := z
          have ey : y = "__class__" := by
            have z : [y] = [("__class__" : Str)] := h7
            injection z
          subst ey
          exact ⟨c, cc, _, ⟨oc, od, n8, n9, n10, n11, n12, n14, osl, rfl, q, k1, He.dflB_ok k2⟩, fileB_ok k3, cellB_ok k4⟩
    | _ => cases h
/-! ### the Hook -/
/-- what is looked at: the module's names, and the statics -/
structure Sel where
  names : List Str
  meths : List (Str × Str)
def refsG (g : Addr → Option Obj) (a : Addr) : List Addr := match g a with
  | some o => He.refsD o
  | none => []
def selA (n : Sel) (g : Addr → Option Obj) : List Addr :=
  let K0 := He.frT g [mainGlobals]
  let l1 := n.names.map (He.ga K0)
  let l2 := l1.flatMap (refsG g)
  let K1 := He.frT g (cStatics :: mainGlobals :: (l1 ++ l2))
  let l3 := n.meths.map fun p => He.ma K1 (He.ga K0 p.1) p.2
  cStatics :: mainGlobals :: (l1 ++ (l2 ++ (l3 ++ l3.flatMap (refsG g))))
def asY (n : Sel) (g : Addr → Option Obj) : List Addr := selA n g
structure SaysY (fa : List He.Fa) (fn : List He.DefD) (ts : List He.Tab) (tf : List He.Defn) (er : List ErrD) (ex : PySem.W.Frag → Bool) (w : World) (h : Heap) (K : PySem.W.Frag) : Prop where
  x : He.SaysX fa fn ts tf ex w h K
  er : ∀ d ∈ er, errB K d = true ∧ fnC K d.cls = d.val
abbrev AlY : Type := He.AlX × (Bool × List FnC)
def obsK (fa : List He.Fa) (fn : List He.DefD) (ts : List He.Tab) (tf : List He.Defn) (er : List ErrD) (ex : PySem.W.Frag → Bool) (g : Addr → Option Obj) (K : PySem.W.Frag) : AlY := ((He.obsT fa fn ts K, ex K && He.tabsB g tf K), er.all (errB K), er.map fun d => fnC K d.cls)
def obsY (n : Sel) (fa : List He.Fa) (fn : List He.DefD) (ts : List He.Tab) (tf : List He.Defn) (er : List ErrD) (ex : PySem.W.Frag → Bool) (g : Addr → Option Obj) : AlY := obsK fa fn ts tf er ex g (He.frT g (asY n g))
def valY (fn : List He.DefD) (ts : List He.Tab) (er : List ErrD) (w : World) : AlY := (He.valX fn ts w, true, er.map ErrD.val)
theorem saysY_of {n : Sel} {fa : List He.Fa} {fn : List He.DefD} {ts : List He.Tab} {tf : List He.Defn} {er : List ErrD} {ex : PySem.W.Frag → Bool} {w : World} {h : Heap} (e : obsY n fa fn ts tf er ex h.get? = valY fn ts er w) : SaysY fa fn ts tf er ex w h (He.frT h.get? (asY n h.get?)) := by
  have e1 : He.obsT fa fn ts (He.frT h.get? (asY n h.get?)) = He.valT fn ts w := congrArg (fun z : AlY => z.1.1) e
  have e2 : (ex (He.frT h.get? (asY n h.get?)) && He.tabsB h.get? tf (He.frT h.get? (asY n h.get?))) = true := congrArg (fun z : AlY => z.1.2) e
  have e3 : er.all (errB (He.frT h.get? (asY n h.get?))) = true := congrArg (fun z : AlY => z.2.1) e
  have e4 : er.map (fun d => fnC (He.frT h.get? (asY n h.get?)) d.cls) = er.map ErrD.val := congrArg (fun z : AlY => z.2.2) e
  generalize hK : He.frT h.get? (asY n h.get?) = K at e1 e2 e3 e4 ⊢
  obtain ⟨h1, h2⟩ := He.ba e2
  have key : ∀ p ∈ tf, PySem.W.codeHdIn K (He.cT K p).1 (He.cT K p).2 = true ∧ ∃ o, h.get? (He.cT K p).2 = some o ∧ He.emptyTab o = true := fun p hp => by
    obtain ⟨h3, h4⟩ := He.ba (List.all_eq_true.mp h2 p hp)
    refine ⟨h3, ?_⟩
    cases q : h.get? (He.cT K p).2 with
    | none =>
      rw [q] at h4
      cases h4
    | some o =>
      rw [q] at h4
      exact ⟨o, rfl, h4⟩
  refine ⟨⟨e1, h1, fun p hp => (key p hp).1, fun p hp => ?_, fun p hp => ?_⟩, fun d hd => ⟨List.all_eq_true.mp e3 d hd, List.map_inj_left.mp e4 d hd⟩⟩
  · obtain ⟨_, o, q, z⟩ := key p hp
    have y := He.frT_none (as := asY n h.get?) q z
    rw [hK] at y
    exact y
  · obtain ⟨_, o, q, z⟩ := key p hp
    rw [q, He.emptyTab_eq z]
def hookY (n : Sel) (fa : List He.Fa) (fn : List He.DefD) (ts : List He.Tab) (tf : List He.Defn) (er : List ErrD) (ex : PySem.W.Frag → Bool) : PySem.W.Hook where
  α := AlY
  obs := fun s => obsY n fa fn ts tf er ex s.heap.get?
  val := fun w => valY fn ts er w
  says := fun w h => ∃ K : PySem.W.Frag, K.In h ∧ SaysY fa fn ts tf er ex w h K
  of := fun _ _ e => ⟨_, He.frT_in, saysY_of e⟩
  keeps := fun _ _ _ ⟨K, hK, c⟩ k => ⟨K, PySem.W.Frag.In.keeps hK k, ⟨⟨c.x.t, c.x.more, c.x.hd, c.x.out, fun p hp => k _ _ (c.x.empty p hp)⟩, c.er⟩⟩
theorem obsY_eq {n : Sel} {fa : List He.Fa} {fn : List He.DefD} {ts : List He.Tab} {tf : List He.Defn} {er : List ErrD} {ex : PySem.W.Frag → Bool} {g : Addr → Option Obj} {s : Shared} (h : ∀ a, g a = s.heap.get? a) : obsY n fa fn ts tf er ex g = (hookY n fa fn ts tf er ex).obs s := by
  have e : g = s.heap.get? := funext h
  rw [e] <;> rfl
/-- a text that is looked up -/
def strB (r : Option (Option Value)) (z : Str) : Bool := match r with
  | some (some (.str y _)) => decide (y = z)
  | _ => false
theorem strB_ok {r : Option (Option Value)} {z : Str} (h : strB r z = true) : ∃ t, r = some (some (.str z t)) := by
  unfold strB at h
  split at h
  · rename_i y t
    exact ⟨t, by rw [of_decide_eq_true h]⟩
  · cases h
end Hs
namespace Hs
open PySem PySem.Spec PyProof.Rows L2 Evl
/-! ### the run of the top in two halves: each is a run of its own, of less memory -/
theorem map_two {α β γ δ : Type} {x : Option α} {f : α → β} {g : α → γ} {k : α → δ} {a : β} {b : γ} {c : δ} (h1 : x.map (fun s => (f s, g s)) = some (a, b)) (h2 : x.map k = some c) : x.map (fun s => (f s, g s, k s)) = some (a, b, c) := by
  cases x with
  | none => cases h1
  | some y =>
    have e1 : (f y, g y) = (a, b) := Option.some.inj h1
    have e2 : k y = c := Option.some.inj h2
    obtain ⟨e3, e4⟩ := Prod.mk.inj e1
    show some (f y, g y, k y) = some (a, b, c)
    rw [e2, e3, e4]
section
open PySem.W HandSHeadRun
def RunA (r : OpenRow) (q : Program) (M : Nat) (loose : List Str) (w : World) : Prop :=
  ∀ os : OsState, (endF (stepQ (denQ tabQ) r.prog w) M r.prog w os).map (fun s => (looksF r.prog (boot_heap w.params) s.abs, seenQ q loose (importedModules r.prog.main.body) (fun s => xlAt q [] s && recOk r.toRowW.records s) s.abs)) = some (true, openGood q loose)
def RunB (r : OpenRow) (H : Hook) (ob : SharedT → H.α) (M : Nat) (w : World) : Prop :=
  ∀ os : OsState, (endF (stepQ (denQ tabQ) r.prog w) M r.prog w os).map ob = some (H.val w)
theorem run_ab {r : OpenRow} {q : Program} {H : Hook} {ob : SharedT → H.α} {M : Nat} {loose : List Str} {w : World} (a : RunA r q M loose w) (b : RunB r H ob M w) : RunEq r q H ob M loose w := fun os => map_two (a os) (b os)
end
end Hs
namespace Hs
open PySem PySem.Spec PyProof.Rows L2 Evl
/-! ### the facts of the top -/
def dsIsNum : He.DefD := ⟨("is_number", none), "is_number", "is_number", defArgs (top 10), defBody (top 10), defScope (top 10), [], []⟩
def dsThT : He.DefD := ⟨("thing_text", none), "thing_text", "thing_text", defArgs (top 5), defBody (top 5), defScope (top 5), [], []⟩
def dsWords : He.DefD := ⟨("words_text", none), "words_text", "words_text", defArgs (top 6), defBody (top 6), defScope (top 6), [], []⟩
def dsRowT : He.DefD := ⟨("row_text", none), "row_text", "row_text", defArgs (top 7), defBody (top 7), defScope (top 7), [], []⟩
def dsReadTh : He.DefD := ⟨("read_thing", none), "read_thing", "read_thing", defArgs (top 13), defBody (top 13), defScope (top 13), [], []⟩
def dsReadNs : He.DefD := ⟨("read_numbers", none), "read_numbers", "read_numbers", defArgs (top 11), defBody (top 11), defScope (top 11), [], []⟩
def dsReadCh : He.DefD := ⟨("read_choices", none), "read_choices", "read_choices", defArgs (top 12), defBody (top 12), defScope (top 12), [], []⟩
def dsReadRow : He.DefD := ⟨("read_row", none), "read_row", "read_row", defArgs (top 14), defBody (top 14), defScope (top 14), [], []⟩
def dsDRows : He.DefD := ⟨("deed_rows", none), "deed_rows", "deed_rows", defArgs (top 8), defBody (top 8), defScope (top 8), [], []⟩
def dsDText : He.DefD := ⟨("deed_text", none), "deed_text", "deed_text", defArgs (top 9), defBody (top 9), defScope (top 9), [], []⟩
def dsReadFrom : He.DefD := ⟨("read_from", none), "read_from", "read_from", defArgs (top 15), defBody (top 15), defScope (top 15), [], []⟩
def dsReadDeed : He.DefD := ⟨("read_deed", none), "read_deed", "read_deed", defArgs (top 16), defBody (top 16), defScope (top 16), [], []⟩
def dsSame : He.DefD := ⟨("_law_same", none), "_law_same", "_law_same", defArgs (top 21), defBody (top 21), defScope (top 21), [], []⟩
def dsPull : He.DefD := ⟨("_law_pull", none), "_law_pull", "_law_pull", defArgs (top 19), defBody (top 19), defScope (top 19), [], []⟩
def dsBag : He.DefD := ⟨("_law_bag", none), "_law_bag", "_law_bag", defArgs (top 18), defBody (top 18), defScope (top 18), [], []⟩
def dsOne : He.DefD := ⟨("_law_one", none), "_law_one", "_law_one", defArgs (top 20), defBody (top 20), defScope (top 20), [], []⟩
def dsWideN : He.DefD := ⟨("_law_wide_number", none), "_law_wide_number", "_law_wide_number", defArgs (top 22), defBody (top 22), defScope (top 22), [], []⟩
def dsWordL : He.DefD := ⟨("_law_word", none), "_law_word", "_law_word", defArgs (top 23), defBody (top 23), defScope (top 23), [], []⟩
def dsWideD : He.DefD := ⟨("_law_wide_deed", none), "_law_wide_deed", "_law_wide_deed", defArgs (top 24), defBody (top 24), defScope (top 24), [], []⟩
def dsLRow : He.DefD := ⟨("_law_row_text", none), "_law_row_text", "_law_row_text", defArgs (top 25), defBody (top 25), defScope (top 25), [], []⟩
def dsPlain : He.DefD := ⟨("_law_is_plain", none), "_law_is_plain", "_law_is_plain", defArgs (top 26), defBody (top 26), defScope (top 26), [], []⟩
def dsLaw : He.DefD := ⟨("law", none), "law", "law", defArgs (top 27), defBody (top 27), defScope (top 27), [], []⟩
def fn : List He.DefD := [dsIsNum, dsThT, dsWords, dsRowT, dsReadTh, dsReadNs, dsReadCh, dsReadRow, dsDRows, dsDText, dsReadFrom, dsReadDeed, dsSame, dsPull, dsBag, dsOne, dsWideN, dsWordL, dsWideD, dsLRow, dsPlain, dsLaw]
def fa : List He.Fa := [.glo "is_number", .glo "thing_text", .glo "words_text", .glo "row_text", .glo "read_thing", .glo "read_numbers", .glo "read_choices", .glo "read_row", .glo "deed_rows", .glo "deed_text", .glo "read_from", .glo "read_deed", .glo "_law_same", .glo "_law_pull", .glo "_law_bag", .glo "_law_one", .glo "_law_wide_number", .glo "_law_word", .glo "_law_wide_deed", .glo "_law_row_text", .glo "_law_is_plain", .glo "law", .glo "ShadeError", .glo "FORMS", .free "len", .free "list", .free "int", .free "str", .free "bool", .free "tuple", .free "isinstance", .free "all", .free "range", .free "zip", .free "min"]
def tb : List He.Tab := [(fun K => He.ga K "FORMS", [("lamp" : Str), ("unsure" : Str), ("post" : Str), ("pane" : Str), ("move" : Str), ("switch" : Str), ("drop" : Str), ("look" : Str), ("strike" : Str), ("settle" : Str), ("many" : Str)])]
def exB (K : PySem.W.Frag) : Bool := strB (PySem.W.nsIn K (He.ga K "FORMS") "lamp") "nnnnn" && (strB (PySem.W.nsIn K (He.ga K "FORMS") "post") "nnnn" && (strB (PySem.W.nsIn K (He.ga K "FORMS") "pane") "nnnns" && (strB (PySem.W.nsIn K (He.ga K "FORMS") "move") "wnnn" && (strB (PySem.W.nsIn K (He.ga K "FORMS") "switch") "n" && (strB (PySem.W.nsIn K (He.ga K "FORMS") "drop") "wn" && (strB (PySem.W.nsIn K (He.ga K "FORMS") "look") "nnnnn" && (strB (PySem.W.nsIn K (He.ga K "FORMS") "strike") "n" && (strB (PySem.W.nsIn K (He.ga K "FORMS") "settle") "nn"))))))))
def sel : Sel := ⟨[("is_number" : Str), ("thing_text" : Str), ("words_text" : Str), ("row_text" : Str), ("read_thing" : Str), ("read_numbers" : Str), ("read_choices" : Str), ("read_row" : Str), ("deed_rows" : Str), ("deed_text" : Str), ("read_from" : Str), ("read_deed" : Str), ("_law_same" : Str), ("_law_pull" : Str), ("_law_bag" : Str), ("_law_one" : Str), ("_law_wide_number" : Str), ("_law_word" : Str), ("_law_wide_deed" : Str), ("_law_row_text" : Str), ("_law_is_plain" : Str), ("law" : Str), ("ShadeError" : Str), ("FORMS" : Str)], []⟩
abbrev R : PySem.W.OpenRow := PySem.W.OpenLaw.row PySem.Challenge.rw_hueshade_k53_deeds_as_texts
abbrev hk : PySem.W.Hook := hookY sel fa fn tb [] [] exB
def ob (s : PySem.W.SharedT) : AlY := obsY sel fa fn tb [] [] exB (HandSHeadRun.getT s)
theorem ob_eq (s : PySem.W.SharedT) : ob s = hk.obs s.abs := obsY_eq (HandSHeadRun.getT_eq s)
abbrev others : List Str := [("__name__" : Str), ("ShadeError" : Str), ("BadText" : Str), ("FORMS" : Str), ("thing_text" : Str), ("words_text" : Str), ("row_text" : Str), ("deed_rows" : Str), ("deed_text" : Str), ("is_number" : Str), ("read_numbers" : Str), ("read_choices" : Str), ("read_thing" : Str), ("read_row" : Str), ("read_from" : Str), ("read_deed" : Str), ("_law_bag" : Str), ("_law_pull" : Str), ("_law_one" : Str), ("_law_same" : Str), ("_law_wide_number" : Str), ("_law_word" : Str), ("_law_wide_deed" : Str), ("_law_row_text" : Str), ("_law_is_plain" : Str)]
theorem runTa (w : World) : RunA R (PySem.W.view R.prog [27]) 20000 others (w.withFollow "special-get-raises" true) := by
  intro os
  kernel_rfl
theorem runTb (w : World) : RunB R hk ob 20000 (w.withFollow "special-get-raises" true) := by
  intro os
  kernel_rfl
theorem runFa (w : World) : RunA R (PySem.W.view R.prog [27]) 20000 others (w.withFollow "special-get-raises" false) := by
  intro os
  kernel_rfl
theorem runFb (w : World) : RunB R hk ob 20000 (w.withFollow "special-get-raises" false) := by
  intro os
  kernel_rfl
theorem run (w : World) : HandSHeadRun.RunEq R (PySem.W.view R.prog [27]) hk ob 20000 others w := by
  have h : ∀ b : Bool, HandSHeadRun.RunEq R (PySem.W.view R.prog [27]) hk ob 20000 others (w.withFollow "special-get-raises" b) := fun b => match b with
    | true => run_ab (runTa w) (runTb w)
    | false => run_ab (runFa w) (runFb w)
  have z := h (w.params.followText "special-get-raises")
  rwa [World.withFollow_self] at z
end Hs
namespace Hs
open PySem PySem.Spec PyProof.Rows L2 Evl
section
variable {P : Program} {w : World} {K : PySem.W.Frag} {mg : Str → Option Value} {base : Heap} {f : Addr} {fd : FuncData}
abbrev sPull : Stmt := top 19
theorem scPull : FnScope ["_law_bag_here", "_law_many", "_law_cell", "_law_got", "_law_wider"] ["_law_bag_here", "_law_many"] (defScope sPull) := ⟨rfl, rfl, rfl, by decide +kernel, rfl, by decide +kernel, by decide +kernel⟩
theorem ok_pull (F : FnP K "_law_pull" sPull f fd) (g_len : mg "len" = none) : FnOk P w K mg base CX0 1 f fd ["_law_bag_here", "_law_many"] spPull := by
  have nd := scPull.nd
  refine F.ok scPull (fun vs H Q E h => ?_) (fun cdv A outer s H vs Q E hr h => ⟨_, PSs.nox (Evl.pss_cut (ps_if (PW.pt (pw_and (pt_cmpR op_eq (pe_ix (r := rIxL K) ix_list (pv 0) pe_int (fun _ _ => rfl)) pe_int (nomark _)) (pw_and1 (pt_cmpR op_lt (pe_ix (r := rIxL K) ix_list (pv 0) pe_int (fun _ _ => rfl)) (pe_callB (r := Evl.rLenS K) call_len_seq (by rfl) g_len PySem.boot_len (pa_cons (pe_ix (r := rIxL K) ix_list (pv 0) pe_int (fun _ _ => rfl)) pa_nil)) (nomark _))))) (pss_cons (ps_set (i := 2) nd rfl (.inl rfl) (pe_ix (r := rIxL K) ix_list (pe_ix (r := rIxL K) ix_list (pv 0) pe_int (fun _ _ => rfl)) (pe_ix (r := rIxL K) ix_list (pv 0) pe_int (fun _ _ => rfl)) (fun _ _ => rfl)))
  (pss_cons (ps_asg (pe_op op_add (pe_ix (r := rIxL K) ix_list (pv 0) pe_int (fun _ _ => rfl)) pe_int) (pg_sub (pv 0) pe_int set_list))
  (pss_one (ps_if (pt_cmpR op_ge (pv 2) (pe_op op_pow pe_int pe_int) (nomark _)) (pss_one (ps_asg (pv 2) (pg_sub (pv 0) pe_int set_list))) (pss_one (ps_asg (pe_op op_modN (pe_op op_add (pe_op op_add (pe_op op_mulW (pe_ix (r := rIxL K) ix_list (pv 0) pe_int (fun _ _ => rfl)) pe_int) (pe_op op_modN (pv 2) pe_int)) pe_int) pe_int) (pg_sub (pv 0) pe_int set_list))))))) pss_nil)
  (pss_cons (ps_if (pt_cmpR op_gt (pe_ix (r := rIxL K) ix_list (pv 0) pe_int (fun _ _ => rfl)) pe_int (nomark _)) (pss_cons (ps_set (i := 3) nd rfl (.inl rfl) (pe_op op_modN (pe_ix (r := rIxL K) ix_list (pv 0) pe_int (fun _ _ => rfl)) (pv 1)))
  (pss_cons (ps_asg (pe_op Hs.op_fdivG (pe_ix (r := rIxL K) ix_list (pv 0) pe_int (fun _ _ => rfl)) (pv 1)) (pg_sub (pv 0) pe_int set_list))
  (pss_one (ps_ret (pv 3))))) pss_nil)
  (pss_cons (ps_asg (pe_op op_add (pe_ix (r := rIxL K) ix_list (pv 0) pe_int (fun _ _ => rfl)) pe_int) (pg_sub (pv 0) pe_int set_list))
  (pss_cons (ps_set (i := 4) nd rfl (.inl rfl) (pe_op op_add (pe_op op_mulW (pe_ix (r := rIxL K) ix_list (pv 0) pe_int (fun _ _ => rfl)) (pe_ix (r := rIxL K) ix_list (pv 0) pe_int (fun _ _ => rfl))) (pe_op op_mulW (pe_op op_mulW pe_int (pe_ix (r := rIxL K) ix_list (pv 0) pe_int (fun _ _ => rfl))) (pe_op op_add (pe_op op_modN (pe_ix (r := rIxL K) ix_list (pv 0) pe_int (fun _ _ => rfl)) pe_int) pe_int))))
  (pss_cons (ps_asg (pe_op op_modN (pe_op op_add (pe_op op_add (pv 4) (pe_op op_mulW (pe_op op_mulW (pe_ix (r := rIxL K) ix_list (pv 0) pe_int (fun _ _ => rfl)) (pe_ix (r := rIxL K) ix_list (pv 0) pe_int (fun _ _ => rfl))) (pe_ix (r := rIxL K) ix_list (pv 0) pe_int (fun _ _ => rfl)))) pe_int) pe_int) (pg_sub (pv 0) pe_int set_list))
  (pss_one (ps_ret (pe_op op_modN (pe_op op_add (pe_op Hs.op_fdivG (pe_ix (r := rIxL K) ix_list (pv 0) pe_int (fun _ _ => rfl)) pe_int) (pe_op op_mulW (pe_op op_modN (pe_ix (r := rIxL K) ix_list (pv 0) pe_int (fun _ _ => rfl)) pe_int) pe_int)) (pv 1))))))))), ?_⟩)
  · obtain ⟨b, l, ns, n, many, rfl, _⟩ := h
    rfl
  · obtain ⟨b, l, ns, n, many, rfl, B, hn, hm, hm2, k⟩ := h
    obtain ⟨⟨i, z, s0, c, hb, hi, h0, h1, hc⟩, hl, ne⟩ := B
    refine q_cut (M := fun σ' H' => ∃ v2, σ' = [some (.ref b), some (.int many), v2, none, none] ∧ H' l = some (.lst (ns.map V.int)) ∧ But H H' b ∧ ∃ (i : Nat) (z s : Int), H' b = some (.lst [.ref l, .int i, .int z, .int s, .int c]) ∧ i ≤ ns.length ∧ 0 ≤ s ∧ s < 2147483647) ?_ ?_
    · refine s_when (et_and (et_test (ev_op (ev_ix rfl hb rfl) ev_c (rv_eq rfl))) fun _ => et_test (ev_op (ev_ix rfl hb rfl) (ev_len (ev_ix rfl hb rfl) (sq_of hl)) rv_I0)) (fun ht H1 e1 => ?_) (fun ht H1 e1 => ?_)
      · have hlt : (i : Int) < ((ns.map V.int).length : Int) := by
          rw [Bool.and_eq_true] at ht
          exact of_decide_eq_true ht.2
        rw [List.length_map] at hlt
        have hit : i < ns.length := by omega
        have hg : (ns.map V.int)[i]? = some (V.int ns[i]) := by
          rw [List.getElem?_map, List.getElem?_eq_getElem hit] <;> rfl
        refine q_asg (ev_op (ev_ix rfl (e1 _ _ hb) rfl) (ev_ix rfl (e1 _ _ hb) rfl) (rv_ixL (sq_of (e1 _ _ hl)) (atI_nat hg))) fun H2 e2 => ?_
        have e12 := e1.trans e2
        refine q_setL (j := 1) (e12 _ _ hb) (ev_op (ev_ix rfl (e12 _ _ hb) rfl) ev_c rv_I0) (ev_var rfl) ev_c (by simp) fun H3 e3 => ?_
        have hb3 : (upd H3 b (.lst [.ref l, .int ((i : Int) + 1), .int z, .int s0, .int c])) b = some (.lst [.ref l, .int ((i + 1 : Nat) : Int), .int z, .int s0, .int c]) := upd_same
        have hl3 : (upd H3 b (.lst [.ref l, .int ((i : Int) + 1), .int z, .int s0, .int c])) l = some (.lst (ns.map V.int)) := by
          rw [upd_ne (Ne.symm ne)]
          exact (e12.trans e3) _ _ hl
        have bt3 : But H (upd H3 b (.lst [.ref l, .int ((i : Int) + 1), .int z, .int s0, .int c])) b := But.upd (.of (e12.trans e3))
        refine s_if (et_test (ev_op (ev_var rfl) (ev_op ev_c ev_c (rv_I ⟨by decide, by decide, by decide⟩)) rv_I0)) (fun ht2 H4 e4 => ?_) (fun ht2 H4 e4 => ?_)
        · refine s_setL (j := 2) (e4 _ _ hb3) (ev_var rfl) (ev_var rfl) ev_c (by simp) fun H5 e5 => ?_
          refine ⟨_, rfl, ?_, But.upd ((bt3.ex e4).ex e5), i + 1, ns[i], s0, upd_same, hit, h0, h1⟩
          rw [upd_ne (Ne.symm ne)]
          exact (e4.trans e5) _ _ hl3
        · refine s_setL (j := 3) (e4 _ _ hb3) (ev_op (ev_op (ev_op (ev_op (ev_ix rfl (e4 _ _ hb3) rfl) ev_c (rv_I (mul64 (by omega) (by decide)))) (ev_op (ev_var rfl) ev_c (rv_I (show (2147483563 : Int) ≠ 0 by decide))) rv_I0) ev_c rv_I0) ev_c (rv_I (show (2147483629 : Int) ≠ 0 by decide))) (ev_var rfl) ev_c (by simp) fun H5 e5 => ?_
          have hp := modP (i := s0 * 40503 + (ns[i]).fmod 2147483563 + 1) (j := 2147483629) (by decide)
          refine ⟨_, rfl, ?_, But.upd ((bt3.ex e4).ex e5), i + 1, z, _, upd_same, hit, hp.1, by omega⟩
          rw [upd_ne (Ne.symm ne)]
          exact (e4.trans e5) _ _ hl3
      · exact ⟨none, rfl, e1 _ _ hl, .of e1, i, z, s0, e1 _ _ hb, hi, h0, h1⟩
    · rintro σ' H1 ⟨v2, rfl, hl1, bt1, i, z, s0, hb1, hi, h0, h1⟩
      refine q_when (et_test (ev_op (ev_ix rfl hb1 rfl) ev_c rv_I0)) (fun ht H2 e2 => ?_) (fun ht H2 e2 => ?_)
      · refine q_asg (ev_op (ev_ix rfl (e2 _ _ hb1) rfl) (ev_var rfl) (rv_I (show many ≠ 0 by omega))) fun H3 e3 => ?_
        have e23 := e2.trans e3
        refine q_setL (j := 2) (e23 _ _ hb1) (ev_op (ev_ix rfl (e23 _ _ hb1) rfl) (ev_var rfl) (rv_I (divG (b := 200) (by omega) (by omega) (by decide) (by decide)))) (ev_var rfl) ev_c (by simp) fun H4 e4 => ?_
        have hp := modP (i := z) (j := many) hm
        refine s_ret (ev_var rfl) fun H5 e5 => k _ _ hp.1 hp.2 ?_ ((But.upd (bt1.ex (e23.trans e4))).ex e5)
        refine BagAt.ext (n := n + 1) ⟨⟨i, _, s0, c, upd_same, hi, h0, h1, by omega⟩, ?_, ne⟩ e5 (Nat.le_refl _)
        rw [upd_ne (Ne.symm ne)]
        exact (e23.trans e4) _ _ hl1
      · refine q_setL (j := 4) (e2 _ _ hb1) (ev_op (ev_ix rfl (e2 _ _ hb1) rfl) ev_c rv_I0) (ev_var rfl) ev_c (by simp) fun H3 e3 => ?_
        have hb3 : (upd H3 b (.lst [.ref l, .int i, .int z, .int s0, .int ((c : Int) + 1)])) b = some (.lst [.ref l, .int i, .int z, .int s0, .int ((c : Int) + 1)]) := upd_same
        have hl3 : (upd H3 b (.lst [.ref l, .int i, .int z, .int s0, .int ((c : Int) + 1)])) l = some (.lst (ns.map V.int)) := by
          rw [upd_ne (Ne.symm ne)]
          exact (e2.trans e3) _ _ hl1
        have bt3 : But H (upd H3 b (.lst [.ref l, .int i, .int z, .int s0, .int ((c : Int) + 1)])) b := But.upd (bt1.ex (e2.trans e3))
        have hp1 := modP (i := s0) (j := 8191) (by decide)
        refine q_asg (ev_op (ev_op (ev_ix rfl hb3 rfl) (ev_ix rfl hb3 rfl) (rv_I (mul64 (by omega) (by omega)))) (ev_op (ev_op ev_c (ev_ix rfl hb3 rfl) (rv_I (mul64 (by decide) (by omega)))) (ev_op (ev_op (ev_ix rfl hb3 rfl) ev_c (rv_I (show (8191 : Int) ≠ 0 by decide))) ev_c rv_I0) (rv_I (mul64 (by omega) (by omega)))) rv_I0) fun H4 e4 => ?_
        have hcc : ((c : Int) + 1) * ((c : Int) + 1) ≤ 1000000 * 1000000 := Int.mul_le_mul (by omega) (by omega) (by omega) (by decide)
        have hcd : 0 ≤ ((c : Int) + 1) * ((c : Int) + 1) := Int.mul_nonneg (by omega) (by omega)
        refine q_setL (j := 3) (e4 _ _ hb3) (ev_op (ev_op (ev_op (ev_var rfl) (ev_op (ev_op (ev_ix rfl (e4 _ _ hb3) rfl) (ev_ix rfl (e4 _ _ hb3) rfl) (rv_I (mul64 (by omega) (by omega)))) (ev_ix rfl (e4 _ _ hb3) rfl) (rv_I (mul64 (by omega) (by omega)))) rv_I0) ev_c rv_I0) ev_c (rv_I (show (2147483629 : Int) ≠ 0 by decide))) (ev_var rfl) ev_c (by simp) fun H5 e5 => ?_
        generalize hs' : Int.fmod _ 2147483629 = s1
        have hs1 : 0 ≤ s1 ∧ s1 < 2147483629 := by
          rw [← hs']
          exact modP (by decide)
        have hp2 := modP (i := s1) (j := 7919) (by decide)
        refine s_ret (ev_op (ev_op (ev_op (ev_ix rfl upd_same rfl) ev_c (rv_I (divG (b := 64) (by decide) (by decide) (by decide) (by decide)))) (ev_op (ev_op (ev_ix rfl upd_same rfl) ev_c (rv_I (show (7919 : Int) ≠ 0 by decide))) ev_c (rv_I (mul64 (by omega) (by decide)))) rv_I0) (ev_var rfl) (rv_I (show many ≠ 0 by omega))) fun H6 e6 => ?_
        have hp := modP (i := s1.fdiv 71 + s1.fmod 7919 * 37) (j := many) hm
        refine k _ _ hp.1 hp.2 ?_ ((But.upd (bt3.ex (e4.trans e5))).ex e6)
        refine BagAt.ext (n := n + 1) ⟨⟨i, z, s1, c + 1, upd_same, hi, hs1.1, by omega, by omega⟩, ?_, ne⟩ e6 (Nat.le_refl _)
        rw [upd_ne (Ne.symm ne)]
        exact (e4.trans e5) _ _ hl3
end
end Hs
namespace Hs
open PySem PySem.Spec PyProof.Rows L2 Evl
/-! ### numbers as texts -/
def numS (n : Int) : Str := Str.ofString (toString n)
theorem tl_ofS (s : String) : TL.tl (Str.ofString s) = s.toList.map Char.toNat := by
  show (Str.ofString s).cps.toList = _
  simp only [Str.ofString_eq_toList, List.toList_toArray]
theorem tl_numS {n : Int} : TL.tl (numS n) = if n < 0 then 45 :: TL.numL n.natAbs else TL.numL n.natAbs := by
  by_cases h : n < 0
  · rw [if_pos h]
    obtain ⟨m, rfl⟩ := Int.eq_negSucc_of_lt_zero h
    have e : toString (Int.negSucc m) = "-" ++ toString ((m + 1 : Nat) : Int) := rfl
    unfold numS
    rw [e, tl_ofS, String.toList_append, List.map_append]
    have z := TL.tl_num (m + 1)
    rw [tl_ofS] at z
    rw [z]
    rfl
  · rw [if_neg h]
    obtain ⟨m, rfl⟩ := Int.eq_ofNat_of_zero_le (Int.not_lt.mp h)
    exact TL.tl_num m
/-- a sign that no number's text holds -/
theorem numS_free {n : Int} {s : Nat} (h : s < 45 ∨ 57 < s ∨ s = 46 ∨ s = 47) : s ∉ TL.tl (numS n) := by
  rw [tl_numS]
  have f : s ∉ TL.numL n.natAbs := TL.numL_free (by omega)
  split
  · intro hm
    rcases List.mem_cons.mp hm with e | e
    · omega
    · exact f e
  · exact f
theorem numS_len {n : Int} (h : n.natAbs < 10 ^ 9) : (numS n).length ≤ 10 := by
  rw [TL.len_tl, tl_numS]
  have z := TL.numL_len (n := n.natAbs) (k := 9) (by decide) h
  split
  · rw [List.length_cons]
    omega
  · omega
theorem numS_ne {n : Int} : TL.tl (numS n) ≠ [] := by
  rw [tl_numS]
  split
  · simp
  · exact TL.numL_ne _
theorem numS_reads {n : Int} (h : n.natAbs < 10 ^ 9) : intText? (numS n) = some n := by
  have hl := numS_len h
  by_cases hn : n < 0
  · have e : TL.tl (numS n) = 45 :: TL.numL n.natAbs := by rw [tl_numS, if_pos hn]
    have z := intText_neg (x := numS n) (cs := TL.numL n.natAbs) e (TL.numL_digits _) (TL.numL_ne _) (by omega)
    rw [z, TL.numL_val]
    congr 1
    omega
  · have e : TL.tl (numS n) = TL.numL n.natAbs := by rw [tl_numS, if_neg hn]
    have e2 : (numS n).cps.toList = TL.numL n.natAbs := e
    have z := intText_digits (x := numS n) (by rw [e2]; exact TL.numL_digits _) (by rw [e2]; exact TL.numL_ne _) (by omega)
    rw [z, e2, TL.numL_val]
    congr 1
    omega
/-- its figures -/
theorem figs_of {n : Int} : TL.tl (Txt.removeprefix (numS n) "-") = TL.numL n.natAbs := by
  have hd : ((("-" : Str).cps.toList)) = [45] := by decide +kernel
  have hl1 : ("-" : Str).length = 1 := by decide +kernel
  unfold Txt.removeprefix
  have es : Builtin.Str.subAt (numS n) "-" 0 = decide (n < 0) := by
    rw [StrLaws.subAt_eq, hl1, hd]
    have e2 : (numS n).cps.toList = if n < 0 then 45 :: TL.numL n.natAbs else TL.numL n.natAbs := tl_numS
    rw [e2, List.drop_zero]
    by_cases hn : n < 0
    · rw [if_pos hn, decide_eq_true hn]
      rfl
    · rw [if_neg hn, decide_eq_false hn]
      refine beq_eq_false_iff_ne.mpr fun q => ?_
      have hm : 45 ∈ TL.numL n.natAbs := List.mem_of_mem_take (by rw [q]; exact List.mem_singleton.mpr rfl)
      exact TL.numL_free (s := 45) (.inl (by decide)) hm
  rw [es]
  by_cases hn : n < 0
  · rw [decide_eq_true hn, if_pos rfl]
    unfold Txt.affix
    dsimp only
    rw [hl1]
    have e2 : (numS n).cps.toList = 45 :: TL.numL n.natAbs := by
      have z : TL.tl (numS n) = _ := tl_numS (n := n)
      rw [if_pos hn] at z
      exact z
    have hlen : (numS n).length = (TL.numL n.natAbs).length + 1 := by
      rw [TL.len_tl]
      show (numS n).cps.toList.length = _
      rw [e2, List.length_cons]
    rw [if_neg (by rw [beq_iff_eq]; omega)]
    show ((numS n).cps.extract 1 (numS n).length).toList = _
    rw [Array.toList_extract, e2, hlen]
    simp [List.extract]
  · rw [decide_eq_false hn, if_neg Bool.false_ne_true]
    unfold Txt.affix
    dsimp only
    rw [tl_numS, if_neg hn]
theorem dec_digit : ∀ c : Nat, 48 ≤ c → c ≤ 57 → Unicode.isDecimal c = true := by
  have k : ∀ c : Fin 58, 48 ≤ c.val → Unicode.isDecimal c.val = true := by decide +kernel
  exact fun c h1 h2 => k ⟨c, by omega⟩ h1
theorem figs_dec {n : Int} : Txt.isdecimal (Txt.removeprefix (numS n) "-") = true := by
  have e : (Txt.removeprefix (numS n) "-").cps.toList = TL.numL n.natAbs := figs_of
  unfold Txt.isdecimal
  rw [Bool.and_eq_true]
  constructor
  · refine decide_eq_true ?_
    rw [TL.len_tl, figs_of]
    exact List.length_pos_iff.mpr (TL.numL_ne _)
  · rw [Array.all_eq_true_iff_forall_mem] 
    intro c hc
    have hm : c ∈ TL.numL n.natAbs := by
      rw [← e]
      exact Array.mem_toList_iff.mpr hc
    obtain ⟨a, b⟩ := TL.numL_digits _ c hm
    exact dec_digit c a b
theorem figs_len {n : Int} (h : n.natAbs < 10 ^ 9) : (Txt.removeprefix (numS n) "-").length ≤ 9 := by
  rw [TL.len_tl, figs_of]
  exact TL.numL_len (by decide) h
end Hs
namespace Hs
open PySem PySem.Spec PyProof.Rows L2 Evl
section
variable {prog : Program} {w : World} {A : Around} {E : Value → Shared → Prop} {s : Shared}
/-- x, *ys = a tuple that is not empty: its first item, the rest as a new list -/
theorem star_tup {t : Addr} {its : Array Value} {x : Value} {ys : List Value} {Qd : List Value → Shared → Prop} (hT : IsTup s.heap t its) (hA : A.handled = none) (e : its.toList = x :: ys) (hz : its.size ≤ 16384)
    (k : ∀ (g : Heap) (tk : Tok) (d : Addr), (∀ b o, s.heap.get? b = some o → g.get? b = some o) → s.heap.get? d = none → g.get? d = some (seqObj "list" ys.toArray 0) → Qd [x, .ref d] { s with heap := g, toks := tk }) :
    wpAny (model prog w) A (unpackItems (.ref t) 2 (some 1)) Qd E s := by
  have nt : t ≠ s.heap.objs.size := let ⟨_, q, _⟩ := hT; Nat.ne_of_lt (Heap.lt_size q)
  have sz : its.size = ys.length + 1 := by
    rw [← Array.length_toList, e, List.length_cons]
  unfold unpackItems
  refine wpAny_bind ?_
  unfold notIterableAtAll
  refine wpAny_bind (wpAny_specialOf hT.typeIs slot_tuple_iter.lookup (wpAny_pure ?_))
  simp only [Bool.false_eq_true, if_false]
  refine wpAny_bind (wpAny_holding (iter_tuple hT ?_))
  refine wpAny_bind (wpAny_holding (draw_tuple nt 1 0 _ _ ?first (hT.push _) (by omega) fun g1 i1 b1 => ?_))
  case first => exact ⟨_, Heap.get?_push_size _ rfl, rfl, rfl⟩
  have e1 : (its.toList.drop 0).take 1 = [x] := by
    rw [e]
    rfl
  rw [e1]
  have T1 : IsTup g1 t its := (hT.push _).extBut b1.extBut nt
  obtain ⟨oi, hoi⟩ : ∃ o, g1.get? s.heap.objs.size = some o := let ⟨o, q, _⟩ := i1; ⟨o, q⟩
  obtain ⟨ot, hot⟩ : ∃ o, g1.get? t = some o := let ⟨o, q, _⟩ := T1; ⟨o, q⟩
  have W := Walks.tuple (prog := prog) (w := w) (A := A.in1) hA s.heap.objs.size t nt its
  rw [if_neg (show ¬ ([x] : List Value).length < 1 from Nat.lt_irrefl 1)]
  refine wpAny_bind (wpAny_holding (PySem.W.kun_collect (s := { s with heap := g1 }) (T := "tuple_iterator") (.inr (.inr (.inr rfl))) W (fun _ _ st => st.1.typeIs) (k := 1) (by omega) ⟨i1, T1⟩ (Heap.lt_size hoi) (Heap.lt_size hot) (fun g2 tk kp => ?_) (by rw [sizeLine_eq]; omega)))
  have e2 : its.toList.drop 1 = ys := by rw [e] <;> rfl
  rw [e2]
  have hlt : ¬ ys.length < 2 - 1 - 1 := Nat.not_lt_zero _
  rw [if_neg hlt]
  have e3 : ys.take (ys.length - (2 - 1 - 1)) = ys := List.take_of_length_le (Nat.le_refl _)
  have e4 : ys.drop (ys.length - (2 - 1 - 1)) = [] := List.drop_eq_nil_of_le (Nat.le_refl _)
  rw [e3, e4]
  have old : ∀ b o, s.heap.get? b = some o → g2.get? b = some o := fun b o hb => by
    have n1 : b ≠ s.heap.objs.size := Nat.ne_of_lt (Heap.lt_size hb)
    exact kp b o n1 (b1.extBut b o n1 (Heap.get?_push_of_some _ hb))
  refine wpAny_bind (wpAny_newList ?_ ?_)
  · refine wpAny_pure (k _ tk g2.objs.size (fun b o hb => Heap.get?_push_of_some _ (old b o hb)) ?_ (Heap.get?_push_size _ rfl))
    cases q : s.heap.get? g2.objs.size with
    | none => rfl
    | some o => exact absurd (Heap.lt_size (old _ _ q)) (Nat.lt_irrefl _)
  · have z : ys.length ≤ sizeLine := by
      rw [sizeLine_eq]
      omega
    exact z
end
/-- x, *ys = a tuple -/
def gStar (K : PySem.W.Frag) (g1 g2 : TG) : TG := fun v σ H Q => ∃ a x xs, v = .ref a ∧ SqT K H a (x :: xs) ∧ xs.length ≤ 16000 ∧ ∀ d, H d = none → g1 x σ (upd H d (.lst xs)) fun σ1 H1 => g2 (.ref d) σ1 H1 Q
section
variable {X : Cx}
theorem pg_star {e1 e2 : Expr} {p p2 : Pos} {k : Nat} {g1 g2 : TG} (hc : X.calm = true) (h1 : PG X e1 g1) (h2 : PG X e2 g2) (hs : assignEach [e1, .Starred e2 p2] X.env = [(false, assign e1 X.env), (true, assign e2 X.env)] := by rfl) : PG X (.Tuple [e1, .Starred e2 p2] k p) (gStar X.K g1 g2) := by
  refine ⟨fun pins s σ H v u Q I r hw => ?_⟩
  obtain ⟨a, x, xs, rfl, hq, hl, hw⟩ := hw
  cases r
  obtain ⟨its, rv, ht, hz⟩ := I.tuple hq
  rw [PyProof.Rows.assign_Tuple]
  refine wpAny_bind (wpAny_standAt ?_)
  unfold unpack
  rw [hs]
  cases rv with
  | @cons _ u1 _ us r1 rs =>
    have lz : us.length ≤ 16000 := by rw [← rs.length]; exact hl
    refine wpAny_bind (wpAny_holding (star_tup (x := u1) (ys := us) ht (I.ok.hd hc) rfl (by rw [List.size_toArray, List.length_cons]; omega) fun g tk d old hd0 hd => ?_))
    have hn : H d = none := I.hok.gone hd0
    have I1 : Inv X pins σ (upd H d (.lst xs)) { s with heap := g, toks := tk } := I.laidN (t' := tk) old hd0 hn ⟨by rw [sizeLine_eq]; omega, us, 0, rs, hd⟩
    refine assignInOrder_cons (wpAny_mono (h1.run pins _ σ _ x u1 _ I1 r1 (hw d hn)) (fun _ s2 h2' => ?_) fun _ _ z => z)
    obtain ⟨σ2, H2, I2, q2⟩ := h2'
    refine assignInOrder_cons (wpAny_mono (h2.run pins s2 σ2 H2 (.ref d) (.ref d) Q I2 rfl q2) (fun _ s3 h3 => ?_) fun _ _ z => z)
    exact assignInOrder_nil h3
end
end Hs
namespace Hs
open PySem PySem.Spec PyProof.Rows L2 Evl
/-! ### is a word a number -/
def spIsNum : Sp := fun vs H Q _ => ∃ n : Int, vs = [.str (numS n)] ∧ n.natAbs < 10 ^ 9 ∧ RetV (.bl true) H Q
section
variable {P : Program} {w : World} {K : PySem.W.Frag} {mg : Str → Option Value} {base : Heap} {f : Addr} {fd : FuncData}
abbrev sIsNum : Stmt := top 10
theorem scIsNum : FnScope ["word", "figures"] ["word"] (defScope sIsNum) := ⟨rfl, rfl, rfl, by decide +kernel, rfl, by decide +kernel, by decide +kernel⟩
theorem ok_isNum (F : FnP K "is_number" sIsNum f fd) (g_len : mg "len" = none) (g_str : mg "str" = none) (g_int : mg "int" = none) : FnOk P w K mg base CX0 1 f fd ["word"] spIsNum := by
  have nd := scIsNum.nd
  refine F.ok scIsNum (fun vs H Q E h => ?_) (fun cdv A outer s H vs Q E hr h => ⟨_, PSs.nox (pss_cons (ps_set (i := 1) nd rfl (.inl rfl) (pe_m1 PySem.F.slot_str_removeprefix PySem.F.type_str_removeprefix mt_removeprefix (pv 0) pe_str))
  (pss_one (ps_ret (pe_and (pe_m0 PySem.F.slot_str_isdecimal PySem.F.type_str_isdecimal mt_isdecimal (pv 1)) (pe_and (pe_cmpR op_le (pe_callB call_len_str (by rfl) g_len PySem.boot_len (pa_cons (pv 1) pa_nil)) pe_int (nomark _)) (pe_one (pe_cmpR op_eq (pe_callTy call_str_int (by rfl) g_str (by decide +kernel) (pa_cons (pe_callTy call_int_str (by rfl) g_int (by decide +kernel) (pa_cons (pv 0) pa_nil)) pa_nil)) (pv 0) (nomark _)))))))), ?_⟩)
  · obtain ⟨n, rfl, _⟩ := h
    rfl
  · obtain ⟨n, rfl, hn, k⟩ := h
    have l1 := numS_len hn
    have l2 := figs_len hn
    refine ⟨_, rfl, ⟨_, rfl⟩, _, _, rfl, rfl, sz_of (by omega), ?_⟩
    dsimp only [gName, List.set]
    refine ⟨_, rfl, ⟨_, rfl⟩, _, rfl, rfl, True.intro, true, by rw [figs_dec], ite_T rfl ?_⟩
    refine ⟨_, rfl, _, rfl, sz_of (by omega), _, _, rfl, rfl, true, congrArg V.bl (decide_eq_true (by omega)), ite_T rfl ?_⟩
    refine ⟨_, rfl, _, n, rfl, numS_reads hn, by omega, n, rfl, ?_, _, rfl, rfl, ?_⟩
    · exact Nat.lt_of_lt_of_le (PySem.Flt.log2_lt_of (k := 30) (by decide) (Nat.lt_of_lt_of_le hn (by decide))) (by decide)
    · have e : decide (V.str (Str.ofString (toString n)) = V.str (numS n)) = true := decide_eq_true rfl
      rw [e]
      exact k H (Ex.refl H)
end
end Hs
namespace Hs
open PySem PySem.Spec PyProof.Rows L2 Evl
/-! ### a thing as a word -/
def thS : V → Str
  | .int n => numS n
  | .str x => if x = "" then "-" else x
  | _ => ""
/-- what a thing of a deed may be -/
def ThOk (v : V) : Prop := (∃ n : Int, v = .int n ∧ n.natAbs < 10 ^ 9) ∨ ∃ x : Str, v = .str x ∧ x.length ≤ 20 ∧ 32 ∉ TL.tl x ∧ 10 ∉ TL.tl x
def spThT : Sp := fun vs H Q _ => ∃ v, vs = [v] ∧ ThOk v ∧ RetV (.str (thS v)) H Q
section
variable {P : Program} {w : World} {K : PySem.W.Frag} {mg : Str → Option Value} {base : Heap} {f : Addr} {fd : FuncData}
abbrev sThT : Stmt := top 5
theorem scThT : FnScope ["thing"] ["thing"] (defScope sThT) := ⟨rfl, rfl, rfl, by decide +kernel, rfl, by decide +kernel, by decide +kernel⟩
theorem ok_thT (F : FnP K "thing_text" sThT f fd) (g_str : mg "str" = none) : FnOk P w K mg base CX0 1 f fd ["thing"] spThT := by
  have nd := scThT.nd
  refine F.ok scThT (fun vs H Q E h => ?_) (fun cdv A outer s H vs Q E hr h => ⟨_, PSs.nox (pss_one (ps_ret (pe_ifExp (pt_cmpR op_eq (pv 0) pe_str (nomark _)) pe_str (pe_callTy (call_str_int.or SkE.call_str_str) (by rfl) g_str (by decide +kernel) (pa_cons (pv 0) pa_nil))))), ?_⟩)
  · obtain ⟨v, rfl, _⟩ := h
    rfl
  · obtain ⟨v, rfl, hv, k⟩ := h
    rcases hv with ⟨n, rfl, hn⟩ | ⟨x, rfl, _⟩
    · refine ⟨_, rfl, rfl, _, rfl, ite_F (by simp) ⟨_, rfl, .inl ⟨n, rfl, ?_, k H (Ex.refl H)⟩⟩⟩
      exact Nat.lt_of_lt_of_le (PySem.Flt.log2_lt_of (k := 30) (by decide) (Nat.lt_of_lt_of_le hn (by decide))) (by decide)
    · refine ⟨_, rfl, rfl, _, rfl, ?_⟩
      by_cases hx : x = ""
      · refine ite_T (by simp [hx]) ?_
        have e : thS (.str x) = "-" := if_pos hx
        rw [e] at k
        exact k H (Ex.refl H)
      · refine ite_F (by simp [hx]) ⟨_, rfl, .inr ⟨x, rfl, ?_⟩⟩
        have e : thS (.str x) = x := if_neg hx
        rw [e] at k
        exact k H (Ex.refl H)
end
end Hs
namespace Hs
open PySem PySem.Spec PyProof.Rows L2 Evl
/-! ### things as words -/
def SqQ (K : PySem.W.Frag) (H : Hp) (a : Addr) (xs : List V) : Prop := SqL K H a xs ∨ SqT K H a xs
theorem SqQ.ext {K : PySem.W.Frag} {H H' : Hp} {a : Addr} {xs : List V} (h : SqQ K H a xs) (e : Ex H H') : SqQ K H' a xs := h.imp (fun h => ex_l e h) fun h => ex_t e h
def iSeq (K : PySem.W.Frag) (tl : TE) : TI := fun σ H R => iList K tl σ H R ∨ iTup K tl σ H R
theorem pi_seq {X : Cx} {tg l : Expr} {tl : TE} (hl : PE X l tl) : PI X tg l (iSeq X.K tl) := ⟨fun pins s σ H R I h => h.elim (fun h => (pi_list hl).run pins s σ H R I h) fun h => (pi_tup hl).run pins s σ H R I h⟩
theorem el_lcQ {K : PySem.W.Frag} {σ : L2.St} {H : Hp} {te tl : TE} {a : Addr} {xs : List V} {j : Nat} {vs : List Nat} (v : Nat → V) (h : Ev tl σ H (.ref a)) (hx : SqQ K H a xs) (hz : xs.length ≤ 40000) (hw : ∀ x, wipe ((wipe σ vs).set j (some x)) vs = wipe σ vs)
    (he : ∀ (i : Nat) (x : V) H1, Ex H H1 → xs[i]? = some x → Ev te ((wipe σ vs).set j (some x)) H1 (v i)) : EvL (tLc (iSeq K tl) (gName j) tYes te vs) σ H (given xs.length (fun _ => true) v) := by
  rcases hx with hx | hx
  · exact fun H0 e Q q => .inl (h H0 e _ fun H1 e1 => ⟨a, rfl, ⟨xs, ex_l (e.trans e1) hx⟩, fun Dl hD =>
      lc_list (xs := xs) (Cw H1 (fun _ => true) v Dl) ⟨hD, Ex.new hD, upd_same⟩ (fun i H' _ p => ex_l ((e.trans e1).trans p.2.1) hx) (fun i x H' hi p => ⟨hw x, cw_turn p (by have := (List.getElem?_eq_some_iff.mp hi).1; omega) (fun H1 _ Q q => q H1 (Ex.refl H1)) (fun _ => he i x H1 (e.trans e1) hi)⟩)
        (fun H' p => q Dl H' (fresh_back e1 p.1) (e1.trans p.2.1) p.2.2)⟩)
  · exact fun H0 e Q q => .inr (h H0 e _ fun H1 e1 => ⟨a, rfl, ⟨xs, ex_t (e.trans e1) hx⟩, fun Dl hD =>
      lc_tup (xs := xs) (Cw H1 (fun _ => true) v Dl) ⟨hD, Ex.new hD, upd_same⟩ (fun i H' _ p => ex_t ((e.trans e1).trans p.2.1) hx) (fun i x H' hi p => ⟨hw x, cw_turn p (by have := (List.getElem?_eq_some_iff.mp hi).1; omega) (fun H1 _ Q q => q H1 (Ex.refl H1)) (fun _ => he i x H1 (e.trans e1) hi)⟩)
        (fun H' p => q Dl H' (fresh_back e1 p.1) (e1.trans p.2.1) p.2.2)⟩)
theorem given_map {xs : List V} {g : V → V} {d : V} : given xs.length (fun _ => true) (fun i => g (xs.getD i d)) = xs.map g := by
  unfold given
  rw [List.filter_eq_self.mpr fun _ _ => rfl]
  refine List.ext_getElem (by simp) fun i h1 h2 => ?_
  rw [List.getElem_map, List.getElem_range, List.getElem_map, List.getD_eq_getElem?_getD, List.getElem?_eq_getElem (by simpa using h2)]
  rfl
def spWords (K : PySem.W.Frag) : Sp := fun vs H Q _ => ∃ (a : Addr) (xs : List V), vs = [.ref a] ∧ SqQ K H a xs ∧ (∀ x ∈ xs, ThOk x) ∧ xs.length ≤ 50 ∧ RetV (.str (Txt.join " " (xs.map thS))) H Q
theorem thS_len {v : V} (h : ThOk v) : (thS v).length ≤ 20 := by
  rcases h with ⟨n, rfl, hn⟩ | ⟨x, rfl, hx, _⟩
  · exact Nat.le_trans (numS_len hn) (by decide)
  · show (if x = "" then ("-" : Str) else x).length ≤ 20
    split
    · decide +kernel
    · exact hx
section
variable {P : Program} {w : World} {K : PySem.W.Frag} {mg : Str → Option Value} {base : Heap} {f : Addr} {fd : FuncData}
abbrev sWords : Stmt := top 6
theorem scWords : FnScope ["things", "thing"] ["things"] (defScope sWords) := ⟨rfl, rfl, rfl, by decide +kernel, rfl, by decide +kernel, by decide +kernel⟩
theorem ok_words (F : FnP K "words_text" sWords f fd) (O_thing_text : Own P w K mg base 1 "thing_text" ["thing"] spThT) : FnOk P w K mg base CX0 2 f fd ["things"] (spWords K) := by
  have nd := scWords.nd
  refine F.ok scWords (fun vs H Q E h => ?_) (fun cdv A outer s H vs Q E hr h => ⟨_, PSs.nox (pss_one (ps_ret (pe_join pe_str (pe_lc (own := [("thing", 1)]) rfl nd (Hs.pi_seq (pv 0)) (blkOk_by (N := ["things", "thing"]) (sc := defScope (Hs.top 6)) (by decide +kernel)) (fun _ _ _ _ _ => (pg_name (i := 1) nd rfl (Or.inl rfl))) (fun _ _ _ _ _ => pts_nil) (fun _ _ _ _ _ => (Hs.pe_own O_thing_text hr (by first | decide | omega) (by rfl) (pa_cons (pv 1) pa_nil))))))), ?_⟩)
  · obtain ⟨a, xs, rfl, _⟩ := h
    rfl
  · obtain ⟨a, xs, rfl, hx, hok, hl, k⟩ := h
    have ls : ∀ ys : List V, (∀ x ∈ ys, ThOk x) → ((ys.map thS).map (·.length)).sum ≤ 20 * ys.length := fun ys => by
      induction ys with
      | nil => exact fun _ => Nat.le_refl _
      | cons y r ih =>
        intro h
        have h1 := thS_len (h y List.mem_cons_self)
        have h2 := ih fun z hz => h z (List.mem_cons_of_mem _ hz)
        rw [List.map_cons, List.map_cons, List.sum_cons, List.length_cons]
        omega
    have hs := ls xs hok
    have h1 : (" " : Str).length = 1 := by decide +kernel
    refine ⟨⟨_, rfl⟩, (el_lcQ (K := K) (xs := xs) (fun i => V.str (thS (xs.getD i .non))) (ev_var rfl) hx (by omega) (fun _ => rfl) (fun i x H1 e1 hi => ?_)) H (Ex.refl H) _ fun D H1 nD e1 hD => ?_⟩
    · have eg : xs.getD i .non = x := by rw [List.getD_eq_getElem?_getD, hi] <;> rfl
      rw [eg]
      exact ev_call (ea_cons (ev_var rfl) ea_nil) fun H2 e2 Q' q' E' => ⟨x, rfl, hok x (List.mem_of_getElem? hi), q'⟩
    · rw [given_map (g := fun v => V.str (thS v)) (d := .non)] at hD
      have em : (xs.map fun v => V.str (thS v)) = (xs.map thS).map V.str := by rw [List.map_map] <;> rfl
      rw [em] at hD
      exact ⟨_, D, xs.map thS, rfl, rfl, .inl (sq_of hD), by rw [List.length_map, h1]; omega, k H1 e1⟩
end
end Hs
namespace Hs
open PySem PySem.Spec PyProof.Rows L2 Evl
/-! ### a deed as a row -/
inductive WD
  | plain (w : Str) (xs : List V)
  | unsure (rows : List (List Int))
def rowS (r : List Int) : Str := Txt.join " " (r.map numS)
def WD.text : WD → Str
  | .plain w xs => Txt.join " " ((V.str w :: xs).map thS)
  | .unsure rows => "unsure" ++ " " ++ Txt.join " / " (rows.map rowS)
def DeedV (K : PySem.W.Frag) (H : Hp) (a : Addr) : WD → Prop
  | .plain w xs => SqT K H a (.str w :: xs)
  | .unsure rows => ∃ (c : Addr) (ps : List Addr), SqT K H a [.str "unsure", .ref c] ∧ SqT K H c (ps.map V.ref) ∧ ps.length = rows.length ∧ ∀ (i : Nat) (p : Addr) (r : List Int), ps[i]? = some p → rows[i]? = some r → SqT K H p (r.map V.int)
def WD.ok : WD → Prop
  | .plain w xs => w ≠ "many" ∧ w ≠ "unsure" ∧ (∀ x ∈ V.str w :: xs, ThOk x) ∧ xs.length ≤ 20
  | .unsure rows => rows.length ≤ 20 ∧ ∀ r ∈ rows, r.length = 5 ∧ ∀ n ∈ r, n.natAbs < 10 ^ 9
theorem thS_ints (r : List Int) : (r.map V.int).map thS = r.map numS := by
  rw [List.map_map]
  rfl
theorem joinL_len {s : List Nat} {k : Nat} : ∀ ps : List (List Nat), (∀ p ∈ ps, p.length ≤ k) → (TL.joinL s ps).length ≤ ps.length * (k + s.length)
  | [], _ => Nat.zero_le _
  | [p], h => by
    have := h p (List.mem_singleton.mpr rfl)
    show p.length ≤ 1 * (k + s.length)
    omega
  | p :: q :: r, h => by
    have h1 := h p List.mem_cons_self
    have ih := joinL_len (s := s) (q :: r) fun z hz => h z (List.mem_cons_of_mem _ hz)
    show (p ++ (s ++ TL.joinL s (q :: r))).length ≤ (r.length + 1 + 1) * (k + s.length)
    rw [List.length_append, List.length_append, Nat.add_mul (r.length + 1)]
    have e : (q :: r).length = r.length + 1 := rfl
    rw [e] at ih
    omega
theorem join_len {y : Str} {k : Nat} {ps : List Str} (h : ∀ p ∈ ps, p.length ≤ k) : (Txt.join y ps).length ≤ ps.length * (k + y.length) := by
  rw [TL.join_eq, TL.len_tl, TL.tl_join, TL.len_tl y]
  have z := joinL_len (s := TL.tl y) (k := k) (ps.map TL.tl) fun p hp => by
    obtain ⟨x, hx, rfl⟩ := List.mem_map.mp hp
    rw [← TL.len_tl]
    exact h x hx
  rwa [List.length_map] at z
theorem rowS_len {r : List Int} (h5 : r.length = 5) (h : ∀ n ∈ r, n.natAbs < 10 ^ 9) : (rowS r).length ≤ 55 := by
  have h1 : (" " : Str).length = 1 := by decide +kernel
  have z := join_len (y := " ") (k := 10) (ps := r.map numS) fun p hp => by
    obtain ⟨n, hn, rfl⟩ := List.mem_map.mp hp
    exact numS_len (h n hn)
  rw [List.length_map, h5, h1] at z
  exact z
theorem el_lcTu {K : PySem.W.Frag} {σ : L2.St} {H : Hp} {te tl : TE} {a : Addr} {xs : List V} {j : Nat} {vs : List Nat} (v : Nat → V) (h : Ev tl σ H (.ref a)) (hx : SqT K H a xs) (hz : xs.length ≤ 40000) (hw : ∀ x, wipe ((wipe σ vs).set j (some x)) vs = wipe σ vs)
    (he : ∀ (i : Nat) (x : V) H1, Ex H H1 → xs[i]? = some x → Ev te ((wipe σ vs).set j (some x)) H1 (v i)) : EvL (tLc (iTup K tl) (gName j) tYes te vs) σ H (given xs.length (fun _ => true) v) :=
  fun H0 e Q q => h H0 e _ fun H1 e1 => ⟨a, rfl, ⟨xs, ex_t (e.trans e1) hx⟩, fun Dl hD =>
    lc_tup (xs := xs) (Cw H1 (fun _ => true) v Dl) ⟨hD, Ex.new hD, upd_same⟩ (fun i H' _ p => ex_t ((e.trans e1).trans p.2.1) hx) (fun i x H' hi p => ⟨hw x, cw_turn p (by have := (List.getElem?_eq_some_iff.mp hi).1; omega) (fun H1 _ Q q => q H1 (Ex.refl H1)) (fun _ => he i x H1 (e.trans e1) hi)⟩)
      (fun H' p => q Dl H' (fresh_back e1 p.1) (e1.trans p.2.1) p.2.2)⟩
theorem given_mapA {α : Type} {xs : List α} {g : α → V} {d : α} : given xs.length (fun _ => true) (fun i => g (xs.getD i d)) = xs.map g := by
  unfold given
  rw [List.filter_eq_self.mpr fun _ _ => rfl]
  refine List.ext_getElem (by simp) fun i h1 h2 => ?_
  rw [List.getElem_map, List.getElem_range, List.getElem_map, List.getD_eq_getElem?_getD, List.getElem?_eq_getElem (by simpa using h2)]
  rfl
def spRowT (K : PySem.W.Frag) : Sp := fun vs H Q _ => ∃ a : Addr, vs = [.ref a] ∧ ((∃ d : WD, DeedV K H a d ∧ d.ok ∧ RetV (.str d.text) H Q) ∨ ∃ (c : Addr) (ys : List V), SqT K H a [.str "many", .ref c] ∧ SqT K H c ys ∧ ys.length ≤ 50 ∧ RetV (.str (Txt.join " " ["many", numS ys.length])) H Q)
section
variable {P : Program} {w : World} {K : PySem.W.Frag} {mg : Str → Option Value} {base : Heap} {f : Addr} {fd : FuncData}
abbrev sRowT : Stmt := top 7
theorem scRowT : FnScope ["deed", "word", "things", "choice"] ["deed"] (defScope sRowT) := ⟨rfl, rfl, rfl, by decide +kernel, rfl, by decide +kernel, by decide +kernel⟩
theorem ok_rowT (F : FnP K "row_text" sRowT f fd) (O_words_text : Own P w K mg base 2 "words_text" ["things"] (spWords K)) (g_len : mg "len" = none) : FnOk P w K mg base CX0 3 f fd ["deed"] (spRowT K) := by
  have nd := scRowT.nd
  refine F.ok scRowT (fun vs H Q E h => ?_) (fun cdv A outer s H vs Q E hr h => ⟨_, PSs.nox (pss_cons (ps_asg (pv 0) (Hs.pg_star rfl (pg_name (i := 1) nd rfl (.inl rfl)) (pg_name (i := 2) nd rfl (.inl rfl))))
  (pss_cons (ps_if (pt_cmpR op_eq (pv 1) pe_str (nomark _)) (pss_one (ps_ret (Hs.pe_own O_words_text hr (by first | decide | omega) (by rfl) (pa_cons (pe_lst (pa_cons (pv 1) (pa_cons (pe_callB (r := Evl.rLenS K) call_len_seq (by rfl) g_len PySem.boot_len (pa_cons (pe_ix (r := rIxL K) ix_list (pv 2) pe_int (fun _ _ => rfl)) pa_nil)) pa_nil))) pa_nil)))) pss_nil)
  (pss_cons (ps_if (pt_cmpR op_eq (pv 1) pe_str (nomark _)) (pss_one (ps_ret (pe_op op_add_str (pe_op op_add_str (pv 1) pe_str) (pe_join pe_str (pe_lc (own := [("choice", 3)]) rfl nd (pi_tup (pe_ix (r := rIxL K) ix_list (pv 2) pe_int (fun _ _ => rfl))) (blkOk_by (N := ["deed", "word", "things", "choice"]) (sc := defScope (Hs.top 7)) (by decide +kernel)) (fun _ _ _ _ _ => (pg_name (i := 3) nd rfl (Or.inl rfl))) (fun _ _ _ _ _ => pts_nil) (fun _ _ _ _ _ => (Hs.pe_own O_words_text hr (by first | decide | omega) (by rfl) (pa_cons (pv 3) pa_nil)))))))) pss_nil)
  (pss_one (ps_ret (Hs.pe_own O_words_text hr (by first | decide | omega) (by rfl) (pa_cons (pv 0) pa_nil))))))), ?_⟩)
  · obtain ⟨a, rfl, _⟩ := h
    rfl
  · obtain ⟨a, rfl, h⟩ := h
    rcases h with ⟨d, hd, ok, k⟩ | ⟨c, ys, hd, hc, hl, k⟩
    · cases d with
      | plain wd xs =>
        obtain ⟨n1, n2, h3, h4⟩ := ok
        have hd : SqT K H a (.str wd :: xs) := hd
        refine ⟨_, rfl, a, .str wd, xs, rfl, hd, by omega, fun r hr => ?_⟩
        have x1 := Ex.new (o := .lst xs) hr
        dsimp only [gName, List.set]
        refine q_when (b := false) (et_is (et_test (ev_op (ev_var rfl) ev_c (rv_eq rfl))) (by simp [n1])) (fun ht => Bool.noConfusion ht) (fun _ H2 e2 => ?_)
        refine q_when (b := false) (et_is (et_test (ev_op (ev_var rfl) ev_c (rv_eq rfl))) (by simp [n2])) (fun ht => Bool.noConfusion ht) (fun _ H3 e3 => ?_)
        have e := (x1.trans e2).trans e3
        exact ⟨_, rfl, a, .str wd :: xs, rfl, .inr (ex_t e hd), h3, by rw [List.length_cons]; omega, fun H4 e4 => k H4 (e.trans e4)⟩
      | unsure rows =>
        obtain ⟨lr, hr5⟩ := ok
        obtain ⟨c, ps, hd, hc, hl, hp⟩ := hd
        refine ⟨_, rfl, a, .str "unsure", [.ref c], rfl, hd, by simp, fun r hr => ?_⟩
        have x1 := Ex.new (o := .lst [V.ref c]) hr
        dsimp only [gName, List.set]
        refine q_when (b := false) (et_is (et_test (ev_op (ev_var rfl) ev_c (rv_eq rfl))) (by decide +kernel)) (fun ht => Bool.noConfusion ht) (fun _ H2 e2 => ?_)
        refine q_when (b := true) (et_is (et_test (ev_op (ev_var rfl) ev_c (rv_eq rfl))) (by simp)) (fun _ H3 e3 => ?_) (fun ht => Bool.noConfusion ht)
        have e13 := (x1.trans e2).trans e3
        have hr3 := (e2.trans e3) _ _ (upd_same (H := H) (a := r) (o := .lst [V.ref c]))
        have key : EvL (tLc (iTup K (tOp (rIxL K) (tVar 2) (tC (.int 0)))) (gName 3) tYes (tCall (spWords K) [] E0 (tCons (tVar 3) tNil)) [3]) [some (.ref a), some (.str "unsure"), some (.ref r), none] H3 ((rows.map rowS).map V.str) := by
          have z := el_lcTu (K := K) (tl := tOp (rIxL K) (tVar 2) (tC (.int 0))) (te := tCall (spWords K) [] E0 (tCons (tVar 3) tNil)) (j := 3) (vs := [3]) (σ := [some (.ref a), some (.str "unsure"), some (.ref r), none]) (xs := ps.map V.ref) (fun i => V.str (rowS (rows.getD i []))) (ev_op (ev_var rfl) ev_c (rv_ixL (sq_of hr3) rfl)) (ex_t e13 hc) (by rw [List.length_map]; omega) (fun _ => rfl) (fun i x H1 e1 hi => by
            rw [List.getElem?_map] at hi
            obtain ⟨p, hpi, rfl⟩ := Option.map_eq_some_iff.mp hi
            obtain ⟨rw0, hri⟩ : ∃ z, rows[i]? = some z := ⟨_, List.getElem?_eq_getElem (by rw [← hl]; exact (List.getElem?_eq_some_iff.mp hpi).1)⟩
            have eg : rows.getD i [] = rw0 := by rw [List.getD_eq_getElem?_getD, hri] <;> rfl
            rw [eg]
            obtain ⟨l5, hb⟩ := hr5 rw0 (List.mem_of_getElem? hri)
            refine ev_call (ea_cons (ev_var rfl) ea_nil) fun H2 e2 Q' q' E' => ⟨p, rw0.map V.int, rfl, .inr (ex_t ((e13.trans e1).trans e2) (hp i p rw0 hpi hri)), fun y hy => ?_, by rw [List.length_map]; omega, ?_⟩
            · obtain ⟨n, hn, rfl⟩ := List.mem_map.mp hy
              exact .inl ⟨n, rfl, hb n hn⟩
            · rw [thS_ints]
              exact q')
          rw [List.length_map, hl, given_mapA (g := fun r => V.str (rowS r)) (d := [])] at z
          rw [List.map_map]
          exact z
        refine ⟨_, rfl, _, _, rfl, rfl, ?_, ⟨_, rfl⟩, key H3 (Ex.refl _) _ fun D H4 nD e4 hD => ?_⟩
        · exact sz_of (by decide +kernel)
        · have rl : ∀ p ∈ rows.map rowS, p.length ≤ 55 := fun p hp => by
            obtain ⟨x, hx, rfl⟩ := List.mem_map.mp hp
            exact rowS_len (hr5 x hx).1 (hr5 x hx).2
          have h3 : (" / " : Str).length = 3 := by decide +kernel
          refine ⟨_, D, rows.map rowS, rfl, rfl, .inl (sq_of hD), ?_, _, _, rfl, rfl, ?_, ?_⟩
          · have ls : ∀ ys : List Str, (∀ p ∈ ys, p.length ≤ 55) → (ys.map (·.length)).sum ≤ 55 * ys.length := fun ys => by
              induction ys with
              | nil => exact fun _ => Nat.le_refl _
              | cons y r ih =>
                intro h
                have g1 := h y List.mem_cons_self
                have g2 := ih fun z hz => h z (List.mem_cons_of_mem _ hz)
                rw [List.map_cons, List.sum_cons, List.length_cons]
                omega
            have z := ls _ rl
            rw [List.length_map] at z ⊢
            rw [h3]
            omega
          · have z := join_len (y := " / ") rl
            rw [List.length_map, h3] at z
            have hu : ("unsure" ++ " " : Str).length = 7 := by decide +kernel
            rw [hu]
            refine sz_of ?_
            omega
          · exact k H4 (e13.trans e4)
    · refine ⟨_, rfl, a, .str "many", [.ref c], rfl, hd, by simp, fun r hr => ?_⟩
      have x1 := Ex.new (o := .lst [V.ref c]) hr
      dsimp only [gName, List.set]
      refine q_when (b := true) (et_is (et_test (ev_op (ev_var rfl) ev_c (rv_eq rfl))) (by simp)) (fun _ H2 e2 => ?_) (fun ht => Bool.noConfusion ht)
      refine ⟨_, rfl, _, rfl, r, _, 0, _, rfl, rfl, sq_of (e2 _ _ upd_same), rfl, c, ys, rfl, .inr (ex_t (x1.trans e2) hc), sz_of (by simp), fun l2 hl2 => ?_⟩
      have x3 := Ex.new (o := .lst [V.str "many", .int (ys.length : Int)]) hl2
      have et : [V.str "many", V.int (ys.length : Int)].map thS = (["many", numS ys.length] : List Str) := by
        have h0 : ¬ ("many" : Str) = "" := by decide +kernel
        show [if ("many" : Str) = "" then ("-" : Str) else "many", numS ys.length] = _
        rw [if_neg h0]
      refine ⟨l2, [.str "many", .int (ys.length : Int)], rfl, .inl (sq_of upd_same), fun x hx => ?_, by simp, fun H4 e4 => ?_⟩
      · simp only [List.mem_cons, List.not_mem_nil, or_false] at hx
        rcases hx with rfl | rfl
        · exact .inr ⟨"many", rfl, by decide +kernel, by decide +kernel, by decide +kernel⟩
        · exact .inl ⟨_, rfl, by omega⟩
      · show Q (.str (Txt.join " " ([V.str "many", V.int (ys.length : Int)].map thS))) H4
        rw [et]
        exact k H4 ((x1.trans e2).trans (x3.trans e4))
end
end Hs
namespace Hs
open PySem PySem.Spec PyProof.Rows L2 Evl
/-! ### words read back -/
theorem thS_free {v : V} (h : ThOk v) : 32 ∉ TL.tl (thS v) ∧ 10 ∉ TL.tl (thS v) := by
  rcases h with ⟨n, rfl, _⟩ | ⟨x, rfl, _, h1, h2⟩
  · exact ⟨numS_free (.inl (by decide)), numS_free (.inl (by decide))⟩
  · show 32 ∉ TL.tl (if x = "" then ("-" : Str) else x) ∧ 10 ∉ TL.tl (if x = "" then ("-" : Str) else x)
    split
    · exact ⟨by decide +kernel, by decide +kernel⟩
    · exact ⟨h1, h2⟩
theorem sp_tl : TL.tl (" " : Str) = 32 :: [] := by decide +kernel
theorem sp_kind : (" " : Str).cps.all (· < 256) = true := by decide +kernel
theorem nl_tl : TL.tl ("\n" : Str) = 10 :: [] := by decide +kernel
theorem nl_kind : ("\n" : Str).cps.all (· < 256) = true := by decide +kernel
theorem split_row {xs : List V} (ne : xs ≠ []) (h : ∀ x ∈ xs, ThOk x) : Txt.split (Txt.join " " (xs.map thS)) " " = xs.map thS := by
  refine TL.split_join sp_tl sp_kind (fun e => ne (List.map_eq_nil_iff.mp e)) fun p hp => ?_
  obtain ⟨x, hx, rfl⟩ := List.mem_map.mp hp
  exact (thS_free (h x hx)).1
theorem split_rows {ts : List Str} (ne : ts ≠ []) (h : ∀ t ∈ ts, 10 ∉ TL.tl t) : Txt.split (Txt.join "\n" ts) "\n" = ts := TL.split_join nl_tl nl_kind ne h
theorem joinL_free {s : List Nat} {c : Nat} (hs : c ∉ s) : ∀ ps : List (List Nat), (∀ p ∈ ps, c ∉ p) → c ∉ TL.joinL s ps
  | [], _ => fun h => by cases h
  | [p], h => h p (List.mem_singleton.mpr rfl)
  | p :: q :: r, h => fun hm => by
    rcases List.mem_append.mp hm with z | z
    · exact h p List.mem_cons_self z
    · rcases List.mem_append.mp z with z | z
      · exact hs z
      · exact joinL_free hs (q :: r) (fun y hy => h y (List.mem_cons_of_mem _ hy)) z
theorem join_free {y : Str} {c : Nat} {ps : List Str} (hy : c ∉ TL.tl y) (h : ∀ p ∈ ps, c ∉ TL.tl p) : c ∉ TL.tl (Txt.join y ps) := by
  rw [TL.join_eq, TL.tl_join]
  refine joinL_free hy _ fun p hp => ?_
  obtain ⟨x, hx, rfl⟩ := List.mem_map.mp hp
  exact h x hx
theorem text_free {d : WD} (ok : d.ok) : 10 ∉ TL.tl d.text := by
  cases d with
  | plain w xs =>
    refine join_free (by decide +kernel) fun p hp => ?_
    obtain ⟨x, hx, rfl⟩ := List.mem_map.mp hp
    exact (thS_free (ok.2.2.1 x hx)).2
  | unsure rows =>
    show 10 ∉ TL.tl ("unsure" ++ " " ++ Txt.join " / " (rows.map rowS))
    rw [TL.tl_append]
    intro hm
    rcases List.mem_append.mp hm with z | z
    · exact absurd z (by decide +kernel)
    · refine join_free (by decide +kernel) (fun p hp => ?_) z
      obtain ⟨r, hr, rfl⟩ := List.mem_map.mp hp
      refine join_free (by decide +kernel) fun q hq => ?_
      obtain ⟨n, _, rfl⟩ := List.mem_map.mp hq
      exact numS_free (.inl (by decide))
end Hs
namespace Hs
open PySem PySem.Spec PyProof.Rows L2 Evl
/-! ### the row of a menu, read back -/
theorem joinL_app {s : List Nat} : ∀ {a b : List (List Nat)}, a ≠ [] → b ≠ [] → TL.joinL s (a ++ b) = TL.joinL s a ++ (s ++ TL.joinL s b)
  | [], _, h, _ => absurd rfl h
  | [p], q :: r, _, _ => rfl
  | [_], [], _, h => absurd rfl h
  | p :: q :: r, b, _, hb => by
    have ih := joinL_app (s := s) (a := q :: r) (b := b) (by simp) hb
    show p ++ (s ++ TL.joinL s (q :: r ++ b)) = (p ++ (s ++ TL.joinL s (q :: r))) ++ (s ++ TL.joinL s b)
    rw [ih]
    simp only [List.append_assoc]
/-- the words of rows, a stroke between two -/
def interW {α : Type} (c : α) : List (List α) → List α
  | [] => []
  | [r] => r
  | r :: q :: rs => r ++ c :: interW c (q :: rs)
theorem interW_ne {α : Type} {c : α} : ∀ {rs : List (List α)}, rs ≠ [] → (∀ r ∈ rs, r ≠ []) → interW c rs ≠ []
  | [], h, _ => absurd rfl h
  | [r], _, h => h r (List.mem_singleton.mpr rfl)
  | r :: q :: rs, _, _ => by
    show r ++ c :: interW c (q :: rs) ≠ []
    simp
theorem inter_joinL : ∀ {rs : List (List (List Nat))}, rs ≠ [] → (∀ r ∈ rs, r ≠ []) → TL.joinL [32, 47, 32] (rs.map (TL.joinL [32])) = TL.joinL [32] (interW [47] rs)
  | [], h, _ => absurd rfl h
  | [r], _, _ => rfl
  | r :: q :: rs, _, h => by
    have ih := inter_joinL (rs := q :: rs) (by simp) fun z hz => h z (List.mem_cons_of_mem _ hz)
    have hr := h r List.mem_cons_self
    have hn := interW_ne (c := [47]) (rs := q :: rs) (by simp) fun z hz => h z (List.mem_cons_of_mem _ hz)
    show TL.joinL [32] r ++ ([32, 47, 32] ++ TL.joinL [32, 47, 32] ((q :: rs).map (TL.joinL [32]))) = TL.joinL [32] (r ++ [47] :: interW [47] (q :: rs))
    rw [ih, joinL_app hr (by simp)]
    generalize interW [47] (q :: rs) = zs at hn
    cases zs with
    | nil => exact absurd rfl hn
    | cons z ws => rfl
theorem interW_map {α β : Type} {f : α → β} {c : α} : ∀ rs : List (List α), (interW c rs).map f = interW (f c) (rs.map fun r => r.map f)
  | [] => rfl
  | [r] => rfl
  | r :: q :: rs => by
    show (r ++ c :: interW c (q :: rs)).map f = r.map f ++ f c :: interW (f c) ((q :: rs).map fun r => r.map f)
    rw [List.map_append, List.map_cons, interW_map (q :: rs)]
/-- the words of a menu -/
def menuW (rows : List (List Int)) : List Str := interW "/" (rows.map fun r => r.map numS)
theorem join_menu {rows : List (List Int)} (ne : rows ≠ []) (h : ∀ r ∈ rows, r ≠ []) : Txt.join " / " (rows.map rowS) = Txt.join " " (menuW rows) := by
  have e1 : TL.tl (" / " : Str) = [32, 47, 32] := by decide +kernel
  have e2 : TL.tl ("/" : Str) = [47] := by decide +kernel
  refine TL.ext_tl ?_
  rw [TL.join_eq, TL.join_eq, TL.tl_join, TL.tl_join, e1, sp_tl]
  unfold menuW
  rw [interW_map, e2, List.map_map, List.map_map]
  have e3 : (rows.map (TL.tl ∘ rowS)) = (rows.map fun r => (r.map numS).map TL.tl).map (TL.joinL [32]) := by
    rw [List.map_map]
    refine List.map_congr_left fun r _ => ?_
    show TL.tl (Txt.join " " (r.map numS)) = TL.joinL [32] ((r.map numS).map TL.tl)
    rw [TL.join_eq, TL.tl_join, sp_tl]
  rw [e3]
  refine inter_joinL (fun e => ne (List.map_eq_nil_iff.mp e)) fun r hr => ?_
  obtain ⟨x, hx, rfl⟩ := List.mem_map.mp hr
  exact fun e => h x hx (List.map_eq_nil_iff.mp (List.map_eq_nil_iff.mp e))
end Hs
namespace Hs
open PySem PySem.Spec PyProof.Rows L2 Evl
theorem menuW_ne {rows : List (List Int)} (ne : rows ≠ []) (h : ∀ r ∈ rows, r ≠ []) : menuW rows ≠ [] :=
  interW_ne (fun e => ne (List.map_eq_nil_iff.mp e)) fun r hr => by
    obtain ⟨x, hx, rfl⟩ := List.mem_map.mp hr
    exact fun e => h x hx (List.map_eq_nil_iff.mp e)
theorem unsure_text {rows : List (List Int)} (ne : rows ≠ []) (h : ∀ r ∈ rows, r ≠ []) : (WD.unsure rows).text = Txt.join " " ("unsure" :: menuW rows) := by
  show "unsure" ++ " " ++ Txt.join " / " (rows.map rowS) = _
  rw [join_menu ne h]
  have hn := menuW_ne ne h
  generalize menuW rows = zs at hn
  cases zs with
  | nil => exact absurd rfl hn
  | cons z r =>
    refine TL.ext_tl ?_
    rw [TL.tl_append, TL.tl_append, TL.join_eq, TL.join_eq, TL.tl_join, TL.tl_join, List.append_assoc]
    rfl
theorem interW_mem {α : Type} {c x : α} : ∀ {rs : List (List α)}, x ∈ interW c rs → x = c ∨ ∃ r ∈ rs, x ∈ r
  | [], h => by cases h
  | [r], h => .inr ⟨r, List.mem_singleton.mpr rfl, h⟩
  | r :: q :: rs, h => by
    rcases List.mem_append.mp (show x ∈ r ++ c :: interW c (q :: rs) from h) with z | z
    · exact .inr ⟨r, List.mem_cons_self, z⟩
    · rcases List.mem_cons.mp z with z | z
      · exact .inl z
      · rcases interW_mem z with y | ⟨r', h1, h2⟩
        · exact .inl y
        · exact .inr ⟨r', List.mem_cons_of_mem _ h1, h2⟩
theorem split_unsure {rows : List (List Int)} (ne : rows ≠ []) (h : ∀ r ∈ rows, r ≠ []) : Txt.split (WD.unsure rows).text " " = ("unsure" : Str) :: menuW rows := by
  rw [unsure_text ne h]
  refine TL.split_join sp_tl sp_kind (by simp) fun p hp => ?_
  rcases List.mem_cons.mp hp with rfl | hp
  · decide +kernel
  · rcases interW_mem hp with rfl | ⟨r, hr, hx⟩
    · decide +kernel
    · obtain ⟨y, _, rfl⟩ := List.mem_map.mp hr
      obtain ⟨n, _, rfl⟩ := List.mem_map.mp hx
      exact numS_free (.inl (by decide))
end Hs
namespace Hs
open PySem PySem.Spec PyProof.Rows L2 Evl
/-! ### a word read as a thing -/
def spReadTh : Sp := fun vs H Q _ => (∃ n : Int, vs = [.str "n", .str (numS n)] ∧ n.natAbs < 10 ^ 9 ∧ RetV (.int n) H Q) ∨ ∃ l x : Str, vs = [.str l, .str x] ∧ l ≠ "n" ∧ x ≠ "" ∧ RetV (.str (if l = "s" ∧ x = "-" then "" else x)) H Q
section
variable {P : Program} {w : World} {K : PySem.W.Frag} {mg : Str → Option Value} {base : Heap} {f : Addr} {fd : FuncData}
abbrev sReadTh : Stmt := top 13
theorem scReadTh : FnScope ["letter", "word"] ["letter", "word"] (defScope sReadTh) := ⟨rfl, rfl, rfl, by decide +kernel, rfl, by decide +kernel, by decide +kernel⟩
theorem ok_readTh (F : FnP K "read_thing" sReadTh f fd) (O_is_number : Own P w K mg base 1 "is_number" ["word"] spIsNum) (g_int : mg "int" = none) : FnOk P w K mg base CX0 2 f fd ["letter", "word"] spReadTh := by
  have nd := scReadTh.nd
  refine F.ok scReadTh (fun vs H Q E h => ?_) (fun cdv A outer s H vs Q E hr h => ⟨_, PSs.nox (pss_cons (ps_if (pt_cmpR op_eq (pv 0) pe_str (nomark _)) (pss_one (ps_ret (pe_ifExp (pt_val (Hs.pe_own O_is_number hr (by first | decide | omega) (by rfl) (pa_cons (pv 1) pa_nil))) (pe_callTy call_int_str (by rfl) g_int (by decide +kernel) (pa_cons (pv 1) pa_nil)) pe_non))) pss_nil)
  (pss_cons (ps_if (pt_cmpR op_eq (pv 1) pe_str (nomark _)) (pss_one (ps_ret pe_non)) pss_nil)
  (pss_one (ps_ret (pe_ifExp (PW.pt (pw_and (pt_cmpR op_eq (pv 0) pe_str (nomark _)) (pw_and1 (pt_cmpR op_eq (pv 1) pe_str (nomark _))))) pe_str (pv 1)))))), ?_⟩)
  · rcases h with ⟨n, rfl, _⟩ | ⟨l, x, rfl, _⟩ <;> rfl
  · rcases h with ⟨n, rfl, hn, k⟩ | ⟨l, x, rfl, n1, n2, k⟩
    · refine q_when (b := true) (et_is (et_test (ev_op (ev_var rfl) ev_c (rv_eq rfl))) (by simp)) (fun _ H1 e1 => ?_) (fun ht => Bool.noConfusion ht)
      refine ⟨_, rfl, n, rfl, hn, fun H2 e2 => ⟨true, rfl, ite_T rfl ⟨_, rfl, _, n, rfl, numS_reads hn, ?_, k H2 (e1.trans e2)⟩⟩⟩
      have z := numS_len hn
      omega
    · refine q_when (b := false) (et_is (et_test (ev_op (ev_var rfl) ev_c (rv_eq rfl))) (by simp [n1])) (fun ht => Bool.noConfusion ht) (fun _ H1 e1 => ?_)
      refine q_when (b := false) (et_is (et_test (ev_op (ev_var rfl) ev_c (rv_eq rfl))) (by simp [n2])) (fun ht => Bool.noConfusion ht) (fun _ H2 e2 => ?_)
      have e := e1.trans e2
      have tst : EvT (tAnd (tTest (tOp rEq (tVar 0) (tC (.str "s")))) (tTest (tOp rEq (tVar 1) (tC (.str "-"))))) (L2.start ["letter", "word"] [V.str l, V.str x]) H2 (decide (l = "s") && decide (x = "-")) :=
        et_and (et_is (et_test (ev_op (ev_var rfl) ev_c (rv_eq rfl))) (by simp)) fun _ => et_is (et_test (ev_op (ev_var rfl) ev_c (rv_eq rfl))) (by simp)
      refine tst H2 (Ex.refl _) _ fun H3 e3 => ?_
      have kk := k H3 (e.trans e3)
      by_cases h : l = "s" ∧ x = "-"
      · rw [if_pos h] at kk
        exact ite_T (by rw [decide_eq_true h.1, decide_eq_true h.2] <;> rfl) kk
      · rw [if_neg h] at kk
        refine ite_F ?_ ⟨_, rfl, kk⟩
        rw [← Bool.decide_and]
        exact decide_eq_false h
end
end Hs
namespace Hs
open PySem PySem.Spec PyProof.Rows L2 Evl
/-! ### words read as numbers -/
theorem el_lcLs {K : PySem.W.Frag} {σ : L2.St} {H : Hp} {te tl : TE} {a : Addr} {xs : List V} {j : Nat} {vs : List Nat} (v : Nat → V) (h : Ev tl σ H (.ref a)) (hx : SqL K H a xs) (hz : xs.length ≤ 40000) (hw : ∀ x, wipe ((wipe σ vs).set j (some x)) vs = wipe σ vs)
    (he : ∀ (i : Nat) (x : V) H1, Ex H H1 → xs[i]? = some x → Ev te ((wipe σ vs).set j (some x)) H1 (v i)) : EvL (tLc (iList K tl) (gName j) tYes te vs) σ H (given xs.length (fun _ => true) v) :=
  fun H0 e Q q => h H0 e _ fun H1 e1 => ⟨a, rfl, ⟨xs, ex_l (e.trans e1) hx⟩, fun Dl hD =>
    lc_list (xs := xs) (Cw H1 (fun _ => true) v Dl) ⟨hD, Ex.new hD, upd_same⟩ (fun i H' _ p => ex_l ((e.trans e1).trans p.2.1) hx) (fun i x H' hi p => ⟨hw x, cw_turn p (by have := (List.getElem?_eq_some_iff.mp hi).1; omega) (fun H1 _ Q q => q H1 (Ex.refl H1)) (fun _ => he i x H1 (e.trans e1) hi)⟩)
      (fun H' p => q Dl H' (fresh_back e1 p.1) (e1.trans p.2.1) p.2.2)⟩
theorem num_at {ns : List Int} {i : Nat} {x : V} (h : ((ns.map numS).map V.str)[i]? = some x) : ∃ n, ns[i]? = some n ∧ x = .str (numS n) := by
  rw [List.map_map, List.getElem?_map] at h
  obtain ⟨n, hn, rfl⟩ := Option.map_eq_some_iff.mp h
  exact ⟨n, hn, rfl⟩
def spReadNs (K : PySem.W.Frag) : Sp := fun vs H Q _ => ∃ (a : Addr) (ns : List Int), vs = [.ref a] ∧ SqL K H a ((ns.map numS).map V.str) ∧ ns.length ≤ 50 ∧ (∀ n ∈ ns, n.natAbs < 10 ^ 9) ∧ ∀ (p : Addr) (H' : Hp), H p = none → Ex H H' → H' p = some (.tup (ns.map V.int)) → Q (.ref p) H'
section
variable {P : Program} {w : World} {K : PySem.W.Frag} {mg : Str → Option Value} {base : Heap} {f : Addr} {fd : FuncData}
abbrev sReadNs : Stmt := top 11
theorem scReadNs : FnScope ["words", "word"] ["words"] (defScope sReadNs) := ⟨rfl, rfl, rfl, by decide +kernel, rfl, by decide +kernel, by decide +kernel⟩
theorem ok_readNs (F : FnP K "read_numbers" sReadNs f fd) (O_is_number : Own P w K mg base 1 "is_number" ["word"] spIsNum) (g_int : mg "int" = none) (g_all : mg "all" = none) (g_tuple : mg "tuple" = none) : FnOk P w K mg base CX0 2 f fd ["words"] (spReadNs K) := by
  have nd := scReadNs.nd
  refine F.ok scReadNs (fun vs H Q E h => ?_) (fun cdv A outer s H vs Q E hr h => ⟨_, PSs.nox (pss_cons (ps_if (pt_not (pt_val (pe_callB (r := rAll K) (cr_all rfl) (by rfl) g_all (by decide +kernel) (pa_cons (pe_lc (own := [("word", 1)]) rfl nd (pi_list (pv 0)) (blkOk_by (N := ["words", "word"]) (sc := defScope (Hs.top 11)) (by decide +kernel)) (fun _ _ _ _ _ => (pg_name (i := 1) nd rfl (Or.inl rfl))) (fun _ _ _ _ _ => pts_nil) (fun _ _ _ _ _ => (Hs.pe_own O_is_number hr (by first | decide | omega) (by rfl) (pa_cons (pv 1) pa_nil)))) pa_nil)))) (pss_one (ps_ret pe_non)) pss_nil)
  (pss_one (ps_ret (pe_callTy call_tuple_of (by rfl) g_tuple (by decide +kernel) (pa_cons (pe_lc (own := [("word", 1)]) rfl nd (pi_list (pv 0)) (blkOk_by (N := ["words", "word"]) (sc := defScope (Hs.top 11)) (by decide +kernel)) (fun _ _ _ _ _ => (pg_name (i := 1) nd rfl (Or.inl rfl))) (fun _ _ _ _ _ => pts_nil) (fun _ _ _ _ _ => (pe_callTy call_int_str (by rfl) g_int (by decide +kernel) (pa_cons (pv 1) pa_nil)))) pa_nil))))), ?_⟩)
  · obtain ⟨a, ns, rfl, _⟩ := h
    rfl
  · obtain ⟨a, ns, rfl, hx, hl, hn, k⟩ := h
    have lz : ((ns.map numS).map V.str).length = ns.length := by rw [List.length_map, List.length_map]
    refine q_when (b := false) (fun H1 e1 Q' q' => ?_) (fun ht => Bool.noConfusion ht) (fun _ H1 e1 => ?_)
    · dsimp only [tNot, tB, tCB, tCons]
      refine (el_lcLs (K := K) (j := 1) (vs := [1]) (σ := L2.start (["words", "word"] : List Str) [V.ref a]) (fun _ => V.bl true) (ev_var rfl) (ex_l e1 hx) (by omega) (fun _ => rfl) (fun i x H2 e2 hi => ?_)) H1 (Ex.refl _) _ fun D H2 nD e2 hD => ?_
      · obtain ⟨n, hni, rfl⟩ := num_at hi
        exact ev_call (ea_cons (ev_var rfl) ea_nil) fun H3 e3 Q2 q2 E2 => ⟨n, rfl, hn n (List.mem_of_getElem? hni), q2⟩
      · have ea : given ((ns.map numS).map V.str).length (fun _ => true) (fun _ => V.bl true) = (ns.map fun _ => true).map V.bl := by
          rw [lz]
          have z := given_mapA (xs := ns) (g := fun _ => V.bl true) (d := 0)
          rw [z, List.map_map]
          rfl
        rw [ea] at hD
        have et : (ns.map fun _ => true).all id = true := List.all_eq_true.mpr fun y hy => by
          obtain ⟨_, _, rfl⟩ := List.mem_map.mp hy
          rfl
        refine ⟨D, ns.map fun _ => true, rfl, sq_of hD, true, by rw [et], q' H2 e2⟩
    · dsimp only [tRet, tCB, tCons]
      refine (el_lcLs (K := K) (j := 1) (vs := [1]) (σ := L2.start (["words", "word"] : List Str) [V.ref a]) (fun i => V.int (ns.getD i 0)) (ev_var rfl) (ex_l e1 hx) (by omega) (fun _ => rfl) (fun i x H2 e2 hi => ?_)) H1 (Ex.refl _) _ fun D H2 nD e2 hD => ?_
      · obtain ⟨n, hni, rfl⟩ := num_at hi
        have eg : ns.getD i 0 = n := by rw [List.getD_eq_getElem?_getD, hni] <;> rfl
        have hb := hn n (List.mem_of_getElem? hni)
        have hl2 := numS_len hb
        rw [eg]
        exact fun H3 e3 Q2 q2 => ⟨_, rfl, _, n, rfl, numS_reads hb, by omega, q2 H3 (Ex.refl _)⟩
      · rw [lz, given_mapA (g := V.int)] at hD
        exact ⟨D, ns.map V.int, rfl, .inl ⟨sq_of hD, fun l hl2 => k l _ (fresh_back (e1.trans e2) hl2) ((e1.trans e2).trans (Ex.new hl2)) upd_same⟩⟩
end
end Hs
namespace Hs
open PySem PySem.Spec PyProof.Rows L2 Evl
/-- tuples and what is frozen stay -/
structure Kp (H H' : Hp) : Prop where
  t : ∀ a xs, H a = some (.tup xs) → H' a = some (.tup xs)
  f : ∀ a od o, H a = some (.frz od o) → H' a = some (.frz od o)
theorem Kp.of {H H' : Hp} (e : Ex H H') : Kp H H' := ⟨fun _ _ h => e _ _ h, fun _ _ _ h => e _ _ h⟩
theorem Kp.but {H H' : Hp} {b : Addr} {xs : List V} (hb : H b = some (.lst xs)) (e : But H H' b) : Kp H H' := ⟨fun _ _ h => e _ _ h (ne_of h hb (by intro z; cases z)), fun _ _ _ h => e _ _ h (ne_of h hb (by intro z; cases z))⟩
theorem Kp.upd {H : Hp} {b : Addr} {xs : List V} {o : HO} (hb : H b = some (.lst xs)) : Kp H (L2.upd H b o) := Kp.but hb (But.upd But.refl)
theorem Kp.sqt {K : PySem.W.Frag} {H H' : Hp} {a : Addr} {xs : List V} (e : Kp H H') (h : SqT K H a xs) : SqT K H' a xs := by
  rcases h with (h | ⟨od, h⟩) | h
  · exact .inl (.inl (e.t _ _ h))
  · exact .inl (.inr ⟨od, e.f _ _ _ h⟩)
  · exact .inr h
theorem Kp.tup {H H' : Hp} {a : Addr} {xs : List V} (e : Kp H H') (h : H a = some (.tup xs)) : H' a = some (.tup xs) := e.t _ _ h
end Hs
namespace Hs
open PySem PySem.Spec PyProof.Rows L2 Evl
/-! ### x not in (a tuple of data) -/
def rNotInT (K : PySem.W.Frag) : R2 := fun x y H Q => ∃ d ds, Dp K H x d ∧ Dp K H y (.tuple ds) ∧ SeqAt.shaped d = true ∧ SeqAt.shaped (.tuple ds) = true ∧ Q (.bl (!ds.any fun z => PyData.eqv z d)) H
theorem op_notInT {X : Cx} (hu : X.A.units + 65 < cLine) : OpR X (compareOp .NotIn) (rNotInT X.K) := by
  intro pins s σ H x y v u Q I rx ry h
  obtain ⟨d, ds, hd, he, sd, se, q⟩ := h
  obtain ⟨as, r1⟩ := Dp.reads I d x v hd rx
  obtain ⟨bs, r2⟩ := Dp.reads I (.tuple ds) y u he ry
  exact SeqAt.notIn_tuple_reads r2 r1 (SeqAt.canLay_of_shaped se) (SeqAt.canLay_of_shaped sd) (room_in_shaped sd hu) ⟨.bl _, H, I, rfl, q⟩
theorem un65 {k : Nat} {A : Around} (r : Room k A) : A.units + 65 < cLine := by
  have := r.un
  omega
theorem dpAll_strs {K : PySem.W.Frag} {H : Hp} : ∀ zs : List Str, DpAll K H (zs.map V.str) (zs.map PyData.str)
  | [] => .nil
  | z :: zs => .cons (.str z) (dpAll_strs zs)
/-! ### the words of a menu, cut -/
theorem cutV_nat (xs : List V) (a b : Nat) : cutV xs (some (a : Int)) (some (b : Int)) = (xs.drop a).take (b - a) := by
  unfold cutV
  rw [HT.sIx_nat, HT.sIx_nat]
  by_cases h : a ≤ xs.length
  · rw [Nat.min_eq_left h]
    by_cases h2 : b ≤ xs.length
    · rw [Nat.min_eq_left h2]
    · rw [Nat.min_eq_right (by omega : xs.length ≤ b), List.take_of_length_le (by rw [List.length_drop]; omega), List.take_of_length_le (by rw [List.length_drop]; omega)]
  · rw [List.drop_eq_nil_of_le (by omega : xs.length ≤ min a xs.length), List.drop_eq_nil_of_le (by omega : xs.length ≤ a), List.take_nil, List.take_nil]
theorem inter_drop {α : Type} {c : α} : ∀ (i : Nat) {rs : List (List α)}, (∀ r ∈ rs, r.length = 5) → i < rs.length → (interW c rs).drop (6 * i) = interW c (rs.drop i)
  | 0, _, _, _ => rfl
  | i + 1, [], _, h => absurd h (Nat.not_lt_zero _)
  | i + 1, [_], _, h => absurd (Nat.lt_of_succ_lt_succ h) (Nat.not_lt_zero _)
  | i + 1, r :: q :: rs, h5, h => by
    have hr := h5 r List.mem_cons_self
    have ih := inter_drop (c := c) i (rs := q :: rs) (fun z hz => h5 z (List.mem_cons_of_mem _ hz)) (Nat.lt_of_succ_lt_succ h)
    show (r ++ c :: interW c (q :: rs)).drop (6 * (i + 1)) = interW c ((q :: rs).drop i)
    rw [← ih, show 6 * (i + 1) = r.length + (6 * i + 1) by omega, List.drop_append, Nat.add_sub_cancel_left, List.drop_eq_nil_of_le (by omega), List.nil_append]
    rfl
theorem inter_head {α : Type} {c : α} : ∀ {rs : List (List α)} {r : List α}, rs[0]? = some r → r.length = 5 → (interW c rs).take 5 = r ∧ ((interW c rs).drop 5).take 1 = if rs.length = 1 then [] else [c]
  | [], _, h, _ => by cases h
  | [r'], r, h, h5 => by
    have e := Option.some.inj h
    have e' : r' = r := e
    subst e'
    exact ⟨List.take_of_length_le (by rw [← h5]; exact Nat.le_refl _), by rw [show interW c [r'] = r' from rfl, List.drop_eq_nil_of_le (by omega)] <;> rfl⟩
  | r' :: q :: rs, r, h, h5 => by
    have e' : r' = r := Option.some.inj h
    subst e'
    have e : interW c (r' :: q :: rs) = r' ++ c :: interW c (q :: rs) := rfl
    rw [e, ← h5]
    refine ⟨List.take_left' rfl, ?_⟩
    rw [List.drop_left' rfl, if_neg (by simp)]
    rfl
theorem inter_len {α : Type} {c : α} : ∀ {rs : List (List α)}, rs ≠ [] → (∀ r ∈ rs, r.length = 5) → (interW c rs).length + 1 = 6 * rs.length
  | [], h, _ => absurd rfl h
  | [r], _, h5 => by
    have := h5 r List.mem_cons_self
    show r.length + 1 = 6 * 1
    omega
  | r :: q :: rs, _, h5 => by
    have h := h5 r List.mem_cons_self
    have ih := inter_len (c := c) (rs := q :: rs) (by simp) fun z hz => h5 z (List.mem_cons_of_mem _ hz)
    show (r ++ c :: interW c (q :: rs)).length + 1 = 6 * (rs.length + 1 + 1)
    rw [List.length_append, List.length_cons]
    rw [List.length_cons] at ih
    omega
theorem menu_cut {rows : List (List Int)} (h5 : ∀ r ∈ rows, r.length = 5) {i : Nat} {r : List Int} (hr : rows[i]? = some r) :
    cutV ((menuW rows).map V.str) (some ((6 * i : Nat) : Int)) (some ((6 * i + 5 : Nat) : Int)) = (r.map numS).map V.str ∧
    cutV ((menuW rows).map V.str) (some ((6 * i + 5 : Nat) : Int)) (some ((6 * i + 6 : Nat) : Int)) = (if i + 1 = rows.length then [] else [("/" : Str)]).map V.str := by
  obtain ⟨hi, _⟩ := List.getElem?_eq_some_iff.mp hr
  have g5 : ∀ z ∈ rows.map fun r => r.map numS, z.length = 5 := fun z hz => by
    obtain ⟨y, hy, rfl⟩ := List.mem_map.mp hz
    rw [List.length_map]
    exact h5 y hy
  have d := inter_drop (c := ("/" : Str)) i (rs := rows.map fun r => r.map numS) g5 (by rw [List.length_map]; exact hi)
  have hd := inter_head (c := ("/" : Str)) (rs := (rows.map fun r => r.map numS).drop i) (r := r.map numS) (by rw [List.getElem?_drop, List.getElem?_map, Nat.add_zero, hr] <;> rfl) (by rw [List.length_map]; exact h5 r (List.mem_of_getElem? hr))
  rw [← d] at hd
  have hl : ((rows.map fun r => r.map numS).drop i).length = rows.length - i := by rw [List.length_drop, List.length_map]
  rw [hl] at hd
  rw [cutV_nat, cutV_nat, Nat.add_sub_cancel_left, show 6 * i + 6 - (6 * i + 5) = 1 by omega, ← List.map_drop, ← List.map_drop, ← List.map_take, ← List.map_take]
  refine ⟨congrArg _ hd.1, congrArg _ ?_⟩
  have z := hd.2
  rw [List.drop_drop] at z
  unfold menuW
  rw [z]
  split
  · rw [if_pos (by omega)]
  · rw [if_neg (by omega)]
/-! ### read_choices -/
def RowsT (K : PySem.W.Frag) (H : Hp) (p : Addr) (rows : List (List Int)) : Prop := ∃ ps : List Addr, SqT K H p (ps.map V.ref) ∧ ps.length = rows.length ∧ ∀ (i : Nat) (p : Addr) (r : List Int), ps[i]? = some p → rows[i]? = some r → SqT K H p (r.map V.int)
def spReadCh (K : PySem.W.Frag) : Sp := fun vs H Q _ => ∃ (a : Addr) (rows : List (List Int)), vs = [.ref a] ∧ SqL K H a ((menuW rows).map V.str) ∧ rows ≠ [] ∧ rows.length ≤ 20 ∧ (∀ r ∈ rows, r.length = 5 ∧ ∀ n ∈ r, n.natAbs < 10 ^ 9) ∧ ∀ (p : Addr) (H' : Hp), H p = none → Ex H H' → RowsT K H' p rows → Q (.ref p) H'
theorem ev_lenT {K : PySem.W.Frag} {σ : L2.St} {H : Hp} {ta : TE} {p : Addr} {xs : List V} (ha : Ev ta σ H (.ref p)) (h : SqT K H p xs) : Ev (tCB (rLenS K) (tCons ta tNil)) σ H (.int (xs.length : Int)) := fun H1 e Q q =>
  ha H1 e _ fun H2 e2 => ⟨p, xs, rfl, .inr (ex_t (e.trans e2) h), q H2 e2⟩
theorem et_nonR {σ : L2.St} {H : Hp} {i : Nat} {p : Addr} (h : σ[i]? = some (some (.ref p))) : EvT (tTest (tOp (fun x y H Q => y = V.non ∧ Q (V.bl (decide (x = V.non))) H) (tVar i) (tC V.non))) σ H false :=
  et_is (et_test (ev_op (ev_var h) ev_c fun H6 _ _ q6 => ⟨rfl, q6 H6 (Ex.refl _)⟩)) (decide_eq_false fun z => by cases z)
theorem q_forRC {ta : TA} {tb tz : TS} {D : Ends} {σ : L2.St} {H : Hp} {j : Nat} {lo hi c : Int} {n : Nat} (h : EvA ta σ H [.int lo, .int hi, .int c]) (hr : RgC lo hi c n) (Pv : Nat → L2.St → Hp → Prop) (h0 : ∀ H1, Ex H H1 → Pv 0 σ H1)
    (hs : ∀ i σ' H', i < n → Pv i σ' H' → tb { D with nx := Pv (i + 1), ct := Pv (i + 1), bk := tz D } (σ'.set j (some (.int (lo + (i : Nat) * c)))) H') (hd : ∀ σ' H', Pv n σ' H' → tz D σ' H') : tSeq (tFor (iRng3 ta) (gName j) tb) tz D σ H :=
  h H (Ex.refl _) _ fun H2 e2 => ⟨lo, hi, c, n, rfl, hr, for_rangeC (D := { D with nx := tz D }) Pv (h0 H2 e2) (fun i σ' H' hi p => hs i σ' H' hi p) hd⟩
theorem rg6 {n : Nat} {m : Int} (h : 0 < n) (h2 : n ≤ 20) (hm : m = 6 * (n : Int)) : RgC 0 m 6 n := by
  have e : Builtin.Range.rangeSize 0 m 6 = n := by
    unfold Builtin.Range.rangeSize
    rw [if_pos (by decide), if_pos (by omega)]
    omega
  refine ⟨by decide, by decide, ?_, e⟩
  unfold Builtin.Range.small
  rw [e]
  simp only [Builtin.Range.rangeFitsLong, Bool.and_eq_true, Bool.or_eq_true, decide_eq_true_eq, beq_iff_eq, show (6 : Int) > 0 by decide, if_true]
  first | (split <;> omega) | omega | (refine ⟨by omega, ?_⟩ <;> omega)
section
variable {P : Program} {w : World} {K : PySem.W.Frag} {mg : Str → Option Value} {base : Heap} {f : Addr} {fd : FuncData}
abbrev sReadCh : Stmt := top 12
theorem scReadCh : FnScope ["words", "choices", "first", "choice"] ["words"] (defScope sReadCh) := ⟨rfl, rfl, rfl, by decide +kernel, rfl, by decide +kernel, by decide +kernel⟩
theorem ok_readCh (F : FnP K "read_choices" sReadCh f fd) (O_read_numbers : Own P w K mg base 2 "read_numbers" ["words"] (spReadNs K)) (g_len : mg "len" = none) (g_range : mg "range" = none) (g_tuple : mg "tuple" = none) : FnOk P w K mg base CX0 3 f fd ["words"] (spReadCh K) := by
  have nd := scReadCh.nd
  refine F.ok scReadCh (fun vs H Q E h => ?_) (fun cdv A outer s H vs Q E hr h => ⟨_, PSs.nox (pss_cons (ps_set (i := 1) nd rfl (.inl rfl) (pe_lst pa_nil))
  (pss_cons (ps_for PassesOwn.never rfl (pi_range3 (by rfl) g_range (pa_cons pe_int (pa_cons (pe_op op_add (pe_callB (r := Evl.rLenS K) call_len_seq (by rfl) g_len PySem.boot_len (pa_cons (pv 0) pa_nil)) pe_int) (pa_cons pe_int pa_nil)))) (pg_name (i := 2) nd rfl (.inl rfl)) (pss_cons (ps_if (pt_cmpR (Hs.op_notInT (Hs.un65 hr)) (pe_slice sl_list (pv 0) (po_some (pe_op op_add (pv 2) pe_int)) (po_some (pe_op op_add (pv 2) pe_int))) (pe_tup (pa_cons (pe_lst pa_nil) (pa_cons (pe_lst (pa_cons pe_str pa_nil)) pa_nil))) (by rfl)) (pss_one (ps_ret pe_non)) pss_nil)
  (pss_cons (ps_set (i := 3) nd rfl (.inl rfl) (Hs.pe_own O_read_numbers hr (by first | decide | omega) (by rfl) (pa_cons (pe_slice sl_list (pv 0) (po_some (pv 2)) (po_some (pe_op op_add (pv 2) pe_int))) pa_nil)))
  (pss_cons (ps_if (PW.pt (pw_or (pt_cmpR op_isN (pv 3) pe_non (nomark _)) (pw_or1 (pt_cmpR op_ne (pe_callB (r := Evl.rLenS K) call_len_seq (by rfl) g_len PySem.boot_len (pa_cons (pv 3) pa_nil)) pe_int (nomark _))))) (pss_one (ps_ret pe_non)) pss_nil)
  (pss_one (ps_expr (pe_bm PySem.F.plainAttrs_list PySem.F.slot_list_append PySem.F.type_list_append mt_append (pv 1) (pa_cons (pv 3) pa_nil))))))))
  (pss_one (ps_ret (pe_callTy call_tuple_of (by rfl) g_tuple (by decide +kernel) (pa_cons (pv 1) pa_nil)))))), ?_⟩)
  · obtain ⟨a, rows, rfl, _⟩ := h
    rfl
  · obtain ⟨a, rows, rfl, hx, ne, hl, hn, k⟩ := h
    have h5 : ∀ r ∈ rows, r.length = 5 := fun r hr => (hn r hr).1
    have lz : ((menuW rows).map V.str).length + 1 = 6 * rows.length := by
      rw [List.length_map]
      unfold menuW
      have z := inter_len (c := ("/" : Str)) (rs := rows.map fun r => r.map numS) (fun e => ne (List.map_eq_nil_iff.mp e)) fun z hz => by
        obtain ⟨y, hy, rfl⟩ := List.mem_map.mp hz
        rw [List.length_map]
        exact h5 y hy
      rwa [List.length_map] at z
    have lp : 0 < rows.length := List.length_pos_iff.mpr ne
    refine q_asgL (el_lst ea_nil (by simp)) fun D H1 nD e1 hD => ?_
    refine q_forRC (n := rows.length) (ea_cons ev_c (ea_cons (ev_op (ev_len (ev_var rfl) (ex_l e1 hx)) ev_c rv_I0) (ea_cons ev_c ea_nil))) (rg6 lp hl (by omega)) (fun i σ' H' => Ex H H' ∧ ∃ (v2 v3 : Option V) (ps : List Addr), σ' = [some (.ref a), some (.ref D), v2, v3] ∧ H' D = some (.lst (ps.map V.ref)) ∧ ps.length = i ∧ ∀ (j : Nat) (p : Addr) (r : List Int), ps[j]? = some p → rows[j]? = some r → SqT K H' p (r.map V.int)) ?_ ?_ ?_
    · intro H2 e2
      have e12 := e1.trans e2
      exact ⟨e12, none, none, [], rfl, e2 _ _ hD, rfl, fun _ _ _ h _ => by cases h⟩
    · rintro i σ' H' hi ⟨e, v2, v3, ps, rfl, hDl, hpl, hps⟩
      obtain ⟨r, hr⟩ : ∃ r, rows[i]? = some r := ⟨_, List.getElem?_eq_getElem hi⟩
      obtain ⟨c1, c2⟩ := menu_cut h5 hr
      have q0 : (0 + (i : Int) * 6) = ((6 * i : Nat) : Int) := by omega
      rw [q0]
      have sl2 : ∀ {H3 : Hp}, Ex H' H3 → EvL (tSl (rSlL K) (tVar 0) (tPart (tOp (rI0 fun i j => V.int (i + j)) (tVar 2) (tC (V.int 5)))) (tPart (tOp (rI0 fun i j => V.int (i + j)) (tVar 2) (tC (V.int 6))))) [some (.ref a), some (.ref D), some (.int ((6 * i : Nat) : Int)), v3] H3 ((if i + 1 = rows.length then [] else [("/" : Str)]).map V.str) := fun e3 => by
        have z := el_sl (K := K) (σ := [some (.ref a), some (.ref D), some (.int ((6 * i : Nat) : Int)), v3]) (ev_var (i := 0) rfl) (eo_some (i := ((6 * i : Nat) : Int) + 5) (ev_op (ta := tVar 2) (tb := tC (.int 5)) (r := rI0 fun i j => V.int (i + j)) (ev_var rfl) ev_c rv_I0)) (eo_some (i := ((6 * i : Nat) : Int) + 6) (ev_op (ta := tVar 2) (tb := tC (.int 6)) (r := rI0 fun i j => V.int (i + j)) (ev_var rfl) ev_c rv_I0)) (ex_l (e.trans e3) hx)
        rw [show ((6 * i : Nat) : Int) + 5 = ((6 * i + 5 : Nat) : Int) by omega, show ((6 * i : Nat) : Int) + 6 = ((6 * i + 6 : Nat) : Int) by omega, c2] at z
        exact z
      have sl1 : ∀ {H3 : Hp}, Ex H' H3 → EvL (tSl (rSlL K) (tVar 0) (tPart (tVar 2)) (tPart (tOp (rI0 fun i j => V.int (i + j)) (tVar 2) (tC (V.int 5))))) [some (.ref a), some (.ref D), some (.int ((6 * i : Nat) : Int)), v3] H3 ((r.map numS).map V.str) := fun e3 => by
        have z := el_sl (K := K) (σ := [some (.ref a), some (.ref D), some (.int ((6 * i : Nat) : Int)), v3]) (ev_var (i := 0) rfl) (eo_some (ev_var (i := 2) rfl)) (eo_some (i := ((6 * i : Nat) : Int) + 5) (ev_op (ta := tVar 2) (tb := tC (.int 5)) (r := rI0 fun i j => V.int (i + j)) (ev_var rfl) ev_c rv_I0)) (ex_l (e.trans e3) hx)
        rw [show ((6 * i : Nat) : Int) + 5 = ((6 * i + 5 : Nat) : Int) by omega, c1] at z
        exact z
      refine q_when (b := false) (et_test (fun H3 e3 Q' q' => ?_)) (fun ht => Bool.noConfusion ht) (fun _ H3 e3 => ?_)
      · refine sl2 e3 H3 (Ex.refl _) _ fun p1 H4 n4 e4 h4 => ?_
        refine ⟨sz_of (by simp), fun p2 n2 => ⟨sz_of (by simp), fun p3 n3 => ⟨sz_of (by simp), fun p4 n5 => ?_⟩⟩⟩
        have x2 := Ex.new (o := .lst []) n2
        have x3 := Ex.new (o := .lst [V.str "/"]) n3
        have x4 := Ex.new (o := .tup [V.ref p2, V.ref p3]) n5
        refine ⟨.list ((if i + 1 = rows.length then [] else [("/" : Str)]).map PyData.str), [.list [], .list [.str "/"]], .lst (sq_of (((x2.trans x3).trans x4) _ _ h4)) (dpAll_strs _), .tup (st_of upd_same) (.cons (.lst (sq_of ((x3.trans x4) _ _ upd_same)) .nil) (.cons (.lst (sq_of (x4 _ _ upd_same)) (.cons (.str _) .nil)) .nil)), ?_, by decide +kernel, ?_⟩
        · split <;> decide +kernel
        · have ev : (!([.list [], .list [.str "/"]] : List PyData).any fun z => PyData.eqv z (.list ((if i + 1 = rows.length then [] else [("/" : Str)]).map PyData.str))) = false := by
            split <;> decide +kernel
          rw [ev]
          exact q' _ ((e4.trans x2).trans (x3.trans x4))
      · refine sl1 e3 H3 (Ex.refl _) _ fun p1 H4 n4 e4 h4 => ?_
        have lr := (hn r (List.mem_of_getElem? hr))
        refine ⟨p1, r, rfl, sq_of h4, by omega, lr.2, fun p H5 np e5 h5' => ?_⟩
        have e35 := (e3.trans e4).trans e5
        have ez : ((r.map V.int).length : Int) = 5 := by rw [List.length_map, lr.1] <;> rfl
        dsimp only [gName, List.set]
        refine q_when (b := false) (et_is (et_or (a := false) (b := false) (et_nonR rfl) fun _ => et_is (et_test (ev_op (ev_lenT (K := K) (ev_var (v := .ref p) rfl) (st_of h5')) ev_c (rv_ne rfl))) (by rw [ez] <;> rfl)) rfl) (fun ht => Bool.noConfusion ht) (fun _ H6 e6 => ?_)
        have eD := e35.trans e6
        refine s_app (eD _ _ hDl) (ev_var rfl) (ev_var rfl) (by rw [List.length_map]; omega) fun H7 e7 => ?_
        have nD' : H D = none := nD
        have e07 := (e.trans eD).trans e7
        refine ⟨Ex.mut e07 nD', _, _, ps ++ [p], rfl, by rw [List.map_append] <;> exact upd_same, by rw [List.length_append, hpl] <;> rfl, fun j p' r' hj hr' => ?_⟩
        have kp : Kp H' (upd H7 D (.lst (ps.map V.ref ++ [.ref p]))) := ⟨fun _ _ h => (Kp.upd ((eD.trans e7) _ _ hDl)).t _ _ ((eD.trans e7) _ _ h), fun _ _ _ h => (Kp.upd ((eD.trans e7) _ _ hDl)).f _ _ _ ((eD.trans e7) _ _ h)⟩
        have kp5 : Kp H5 (upd H7 D (.lst (ps.map V.ref ++ [.ref p]))) := ⟨fun _ _ h => (Kp.upd ((eD.trans e7) _ _ hDl)).t _ _ ((e6.trans e7) _ _ h), fun _ _ _ h => (Kp.upd ((eD.trans e7) _ _ hDl)).f _ _ _ ((e6.trans e7) _ _ h)⟩
        by_cases hji : j < ps.length
        · rw [List.getElem?_append_left hji] at hj
          exact kp.sqt (hps j p' r' hj hr')
        · rw [List.getElem?_append_right (Nat.not_lt.mp hji)] at hj
          have hj0 : j - ps.length = 0 := by
            have := (List.getElem?_eq_some_iff.mp hj).1
            simp at this
            omega
          rw [hj0] at hj
          cases hj
          rw [show j = i by omega, hr] at hr'
          cases hr'
          exact kp5.sqt (st_of h5')
    · rintro σ' H' ⟨e, v2, v3, ps, rfl, hDl, hpl, hps⟩
      refine ⟨_, rfl, D, ps.map V.ref, rfl, .inl ⟨sq_of hDl, fun l hl2 => ?_⟩⟩
      have el := Ex.new (o := .tup (ps.map V.ref)) hl2
      exact k l _ (fresh_back e hl2) (e.trans el) ⟨ps, st_of upd_same, hpl, fun j p r h1 h2 => ex_t el (hps j p r h1 h2)⟩
end
end Hs
namespace Hs
open PySem PySem.Spec PyProof.Rows L2
/-! ### for x in zip(*rows), x a name: the tuple that was handed out may be held or gone -/
abbrev IsZipF (h : Heap) (z TI TO : Addr) (f0 : Value) (f1 : Bool) : Prop := h.get? z = some { cls := .type "zip", dict := none, data := .fields #[f0, .bool f1, .bool false, .ref TI, .ref TO], slots := #[] }
abbrev IsTupA (h : Heap) (T : Addr) (arr : Array Value) : Prop := h.get? T = some { cls := .type "tuple", data := .seq arr }
def OwnF (f0 : Value) : Prop := f0 = .none ∨ ∃ T : Nat, f0 = rawInt T
theorem _root_.PySem.Heap.IsTuple.at' {h h' : Heap} {l : Addr} {xs : Array Value} (x : h.IsTuple l xs) (k : ∀ o, h.get? l = some o → h'.get? l = some o) : h'.IsTuple l xs := by
  obtain ⟨o, ho, r⟩ := x
  exact ⟨o, k o ho, r⟩
theorem set2 {arr : Array Value} {x1 x2 : Value} (h : arr.size = 2) : ((arr).setIfInBounds 0 x1).setIfInBounds 1 x2 = #[x1, x2] := by
  obtain ⟨l⟩ := arr
  match l, h with
  | [a, b], _ => rfl
theorem set3 {arr : Array Value} {x1 x2 x3 : Value} (h : arr.size = 3) : (((arr).setIfInBounds 0 x1).setIfInBounds 1 x2).setIfInBounds 2 x3 = #[x1, x2, x3] := by
  obtain ⟨l⟩ := arr
  match l, h with
  | [a, b, c], _ => rfl
section
variable {prog : Program} {w : World} {A : Around} {E : Value → Shared → Prop} {s : Shared}
theorem upSeq {T : Addr} {arr : Array Value} {x : Value} {k : Nat} {Q : Unit → Shared → Prop} (hT : IsTupA s.heap T arr) (hn : arr.size ≤ 10) (h : ∀ h', IsTupA h' T (arr.setIfInBounds k x) → Heap.SameBut T s.heap h' → Q () { s with heap := h' }) : wpAny (model prog w) A (updateSeq T (·.setIfInBounds k x)) Q E s := by
  refine wpAny_updateSeq hT rfl (h _ ?_ (Heap.SameBut.update ..)) (hz := Nat.le_trans hn (by decide)) (_hz' := by rw [Array.size_setIfInBounds]; exact Nat.le_trans hn (by decide))
  rw [IsTupA, Heap.get?_update_self _ hT rfl]
  simp [Obj.mapSeq]
theorem owned_any {z TI TO : Addr} {f0 : Value} {f1 : Bool} {Q : Bool → Shared → Prop} (hz : IsZipF s.heap z TI TO f0 f1) (hf0 : OwnF f0) (ht : Q true s) (hf : ∀ h', IsZipF h' z TI TO f0 true → Heap.SameBut z s.heap h' → Q false { s with heap := h' }) :
    wpAny (model prog w) A (Builtin.SmallTypes.ownedTupleIsFree (.ref z)) Q E s := by
  unfold Builtin.SmallTypes.ownedTupleIsFree
  rcases hf0 with rfl | ⟨T, rfl⟩
  · exact wpAny_bind (wpAny_field hz rfl (x := .none) rfl (wpAny_pure ht))
  · refine wpAny_bind (wpAny_field hz rfl (x := rawInt T) rfl ?_)
    show wpAny _ _ (loadIfAlive ((T : Int).toNat) >>= _) _ _ _
    rw [Int.toNat_natCast]
    have al : ∀ {Q' : Option Obj → Shared → Prop}, Q' (s.heap.get? T) s → wpAny (model prog w) A (loadIfAlive T) Q' E s := fun h => fun _ _ _ => h
    refine wpAny_bind (al ?_)
    cases hg : s.heap.get? T with
    | none =>
      simp only [Option.isNone_none, if_true]
      exact wpAny_pure ht
    | some o =>
      simp only [Option.isNone_some, Bool.false_eq_true, if_false]
      refine wpAny_bind (wpAny_field hz rfl (x := .bool f1) rfl ?_)
      cases f1 with
      | true =>
        rw [if_neg (show ¬ ((Value.bool true != Value.bool true) = true) from Bool.false_ne_true)]
        exact wpAny_pure (hf s.heap hz (Heap.SameBut.refl _ _))
      | false =>
        rw [if_pos (show (Value.bool false != Value.bool true) = true from rfl)]
        exact wpAny_bind (wpAny_setField_rec hz (by simp) fun h₁ hz₁ hs₁ => wpAny_pure (hf h₁ hz₁ hs₁))
theorem pyIter_zipF {z TI TO : Addr} {f0 : Value} {f1 : Bool} {Q : Value → Shared → Prop} (hz : IsZipF s.heap z TI TO f0 f1) (h : Q (.ref z) s) : wpAny (model prog w) A (pyIter (.ref z)) Q E s := by
  have hT : s.TypeIs (.ref z) "zip" := ⟨_, hz, rfl⟩
  refine wpAny_pyIter_slot hT F.slot_zip_iter (wpAny_call_entry F.slot_zip_iter hT F.entry_zip_iter ?_ (F.args_zip_iter_1 _))
  show wpAny _ _ (ret (.ref z)) _ _ s
  exact wpAny_pure ⟨_, rfl, "zip", _, hT, F.slot_zip_next.lookup, h⟩
end
end Hs
namespace Hs
open PySem PySem.Spec PyProof.Rows L2
structure ZA2 (z TI TO i1 i2 l1 l2 : Addr) : Prop where
  TIz : TI ≠ z
  TOz : TO ≠ z
  TITO : TI ≠ TO
  i1z : i1 ≠ z
  TIi1 : TI ≠ i1
  TOi1 : TO ≠ i1
  i2z : i2 ≠ z
  TIi2 : TI ≠ i2
  TOi2 : TO ≠ i2
  i1i2 : i1 ≠ i2
  l1z : l1 ≠ z
  l1TO : l1 ≠ TO
  l1i1 : l1 ≠ i1
  l1i2 : l1 ≠ i2
  l2z : l2 ≠ z
  l2TO : l2 ≠ TO
  l2i1 : l2 ≠ i1
  l2i2 : l2 ≠ i2
section
variable {prog : Program} {w : World} {A : Around} {E : Value → Shared → Prop} {s : Shared}
theorem z2_next_item {z TI TO i1 i2 l1 l2 : Addr} {k : Nat} {xs1 xs2 : Array Value} {f0 : Value} {f1 : Bool} {arr : Array Value} {x1 x2 : Value} {Q : Value → Shared → Prop} (D : ZA2 z TI TO i1 i2 l1 l2) (hz : IsZipF s.heap z TI TO f0 f1) (hf0 : OwnF f0) (hTI : IsTupA s.heap TI #[.ref i1, .ref i2]) (hTO : IsTupA s.heap TO arr) (hsz : arr.size = 2) (h1 : s.heap.IsTupleIter i1 l1 k) (h2 : s.heap.IsTupleIter i2 l2 k) (hl1 : s.heap.IsTuple l1 xs1) (hl2 : s.heap.IsTuple l2 xs2) (hx1 : xs1[k]? = some x1) (hx2 : xs2[k]? = some x2)
    (hQ : ∀ h' f0' f1' arr', OwnF f0' → IsZipF h' z TI TO f0' f1' → IsTupA h' TO arr' → arr'.size = 2 → h'.IsTupleIter i1 l1 (k + 1) → h'.IsTupleIter i2 l2 (k + 1) → IsTupA h' s.heap.objs.size #[x1, x2] → h'.objs.size = s.heap.objs.size + 1 → (∀ c o, c ≠ z → c ≠ TO → c ≠ i1 → c ≠ i2 → s.heap.get? c = some o → h'.get? c = some o) → Q (.ref s.heap.objs.size) { s with heap := h' }) :
    wpAny (model prog w) A (Builtin.«zip.__next__» ⟨[.ref z], []⟩) (fun fin s' => ∃ v, fin = .done (.ret v) ∧ Q v s') E s := by
  show wpAny _ _ (field (.ref z) 2 >>= _) _ _ _
  refine wpAny_bind (wpAny_field hz rfl (x := .bool false) rfl ?_)
  show wpAny _ _ (field (.ref z) 3 >>= _) _ _ _
  refine wpAny_bind (wpAny_field hz rfl (x := .ref TI) rfl ?_)
  refine wpAny_bind (wpAny_seqItems hTI rfl ?_)
  show wpAny _ _ (Builtin.SmallTypes.ownedTupleIsFree (.ref z) >>= _) _ _ _
  refine wpAny_bind (owned_any hz hf0 ?_ fun h₁ hz₁ hs₁ => ?_)
  · simp only [if_true]
    refine wpAny_bind (wpAny_rule ?_)
    refine wpAny_bind (wpAny_field hz rfl (x := .ref TO) rfl ?_)
    refine wpAny_bind (wpAny_setField_rec hz (by simp) fun h₀ hz₀ hs₀ => ?_)
    replace hz₀ : IsZipF h₀ z TI TO .ellipsis f1 := hz₀
    have K0 : ∀ c o, c ≠ z → s.heap.get? c = some o → h₀.get? c = some o := fun c o c1 e => hs₀.extBut _ _ c1 e
    have N0 : h₀.objs.size = s.heap.objs.size := hs₀.1
    have T0 : IsTupA h₀ TO arr := K0 _ _ D.TOz hTO
    have J1_0 : h₀.IsTupleIter i1 l1 k := h1.at fun o e => K0 _ o D.i1z e
    have L1_0 : h₀.IsTuple l1 xs1 := hl1.at' fun o e => K0 _ o D.l1z e
    have J2_0 : h₀.IsTupleIter i2 l2 k := h2.at fun o e => K0 _ o D.i2z e
    have L2_0 : h₀.IsTuple l2 xs2 := hl2.at' fun o e => K0 _ o D.l2z e
    refine wpAny_bind ?_
    simp only [List.zipIdx_cons, List.zipIdx_nil, List.forIn_cons, List.forIn_nil]
    refine wpAny_bind (wpAny_bind (wpAny_onRaise ?_))
    show wpAny _ _ (Builtin.SmallTypes.nextOf (.ref i1) >>= _) _ _ _
    refine wpAny_bind (RZ.nextOf_tuple_item J1_0 L1_0 hx1 fun g1 m1 gs1 => wpAny_pure ?_)
    have V1 : IsTupA g1 TO (arr) := gs1.extBut _ _ D.TOi1 T0
    refine wpAny_bind (wpAny_seqItems V1 rfl ?_)
    refine wpAny_bind (upSeq V1 (by simp [hsz]) fun u1 T1 us1 => ?_)
    refine wpAny_bind (wpAny_letGo (wpAny_pure ?_))
    have J1_1 : u1.IsTupleIter i1 l1 (k + 1) := m1.extBut us1.extBut D.TOi1.symm
    have L1_1 : u1.IsTuple l1 xs1 := (L1_0.extBut gs1.extBut D.l1i1).extBut us1.extBut D.l1TO
    have J2_1 : u1.IsTupleIter i2 l2 k := (J2_0.extBut gs1.extBut D.i1i2.symm).extBut us1.extBut D.TOi2.symm
    have L2_1 : u1.IsTuple l2 xs2 := (L2_0.extBut gs1.extBut D.l2i1).extBut us1.extBut D.l2TO
    have K1 : ∀ c o, c ≠ z → c ≠ TO → c ≠ i1 → s.heap.get? c = some o → u1.get? c = some o := fun c o c1 c2 q1 e => us1.extBut _ _ c2 (gs1.extBut _ _ q1 (K0 c o c1  e))
    have Z1 : IsZipF u1 z TI TO .ellipsis f1 := us1.extBut _ _ D.TOz.symm (gs1.extBut _ _ D.i1z.symm hz₀)
    have N1 : u1.objs.size = s.heap.objs.size := by rw [us1.1, gs1.1, N0]
    refine wpAny_bind (wpAny_bind (wpAny_onRaise ?_))
    show wpAny _ _ (Builtin.SmallTypes.nextOf (.ref i2) >>= _) _ _ _
    refine wpAny_bind (RZ.nextOf_tuple_item J2_1 L2_1 hx2 fun g2 m2 gs2 => wpAny_pure ?_)
    have V2 : IsTupA g2 TO ((arr).setIfInBounds 0 x1) := gs2.extBut _ _ D.TOi2 T1
    refine wpAny_bind (wpAny_seqItems V2 rfl ?_)
    refine wpAny_bind (upSeq V2 (by simp [hsz]) fun u2 T2 us2 => ?_)
    refine wpAny_bind (wpAny_letGo (wpAny_pure ?_))
    have J1_2 : u2.IsTupleIter i1 l1 (k + 1) := (J1_1.extBut gs2.extBut D.i1i2).extBut us2.extBut D.TOi1.symm
    have L1_2 : u2.IsTuple l1 xs1 := (L1_1.extBut gs2.extBut D.l1i2).extBut us2.extBut D.l1TO
    have J2_2 : u2.IsTupleIter i2 l2 (k + 1) := m2.extBut us2.extBut D.TOi2.symm
    have L2_2 : u2.IsTuple l2 xs2 := (L2_1.extBut gs2.extBut D.l2i2).extBut us2.extBut D.l2TO
    have K2 : ∀ c o, c ≠ z → c ≠ TO → c ≠ i1 → c ≠ i2 → s.heap.get? c = some o → u2.get? c = some o := fun c o c1 c2 q1 q2 e => us2.extBut _ _ c2 (gs2.extBut _ _ q2 (K1 c o c1 c2 q1 e))
    have Z2 : IsZipF u2 z TI TO .ellipsis f1 := us2.extBut _ _ D.TOz.symm (gs2.extBut _ _ D.i2z.symm Z1)
    have N2 : u2.objs.size = s.heap.objs.size := by rw [us2.1, gs2.1, N1]
    refine wpAny_pure ?_
    refine wpAny_bind (wpAny_seqItems T2 rfl ?_)
    have ea : (((arr).setIfInBounds 0 x1).setIfInBounds 1 x2) = #[x1, x2] := set2 hsz
    rw [ea] at T2 ⊢
    refine wpAny_bind (wpAny_newTuple ?_)
    show wpAny _ _ (Builtin.SmallTypes.ownedTupleHandOut (.ref z) (.ref u2.objs.size) >>= _) _ _ _
    refine wpAny_bind ?_
    unfold Builtin.SmallTypes.ownedTupleHandOut
    have zlt : z < u2.objs.size := Heap.lt_size Z2
    have hz₆ : IsZipF (u2.push { cls := .type "tuple", data := .seq #[x1, x2] }) z TI TO .ellipsis f1 := Heap.get?_push_of_some _ Z2
    refine wpAny_bind (wpAny_setField_rec hz₆ (by simp) fun h₇ hz₇ hs₇ => ?_)
    replace hz₇ : IsZipF h₇ z TI TO (rawInt u2.objs.size) f1 := hz₇
    refine wpAny_setField_rec hz₇ (by simp) fun h₈ hz₈ hs₈ => ?_
    replace hz₈ : IsZipF h₈ z TI TO (rawInt u2.objs.size) false := hz₈
    have up : ∀ c o, c ≠ z → u2.get? c = some o → h₈.get? c = some o := fun c o c1 e => hs₈.extBut _ _ c1 (hs₇.extBut _ _ c1 (Heap.get?_push_of_some _ e))
    have hT₈ : IsTupA h₈ u2.objs.size #[x1, x2] := hs₈.extBut _ _ (Nat.ne_of_gt zlt) (hs₇.extBut _ _ (Nat.ne_of_gt zlt) (Heap.get?_push_size _ rfl))
    have hz8 : h₈.objs.size = u2.objs.size + 1 := by rw [hs₈.1, hs₇.1, Heap.size_push]
    refine wpAny_pure ⟨_, rfl, ?_⟩
    show Q (.ref u2.objs.size) _
    rw [N2] at hz₈ hT₈ hz8 ⊢
    exact hQ h₈ _ _ _ (.inr ⟨_, rfl⟩) hz₈ (up _ _ D.TOz T2) rfl (J1_2.at fun o e => up _ o D.i1z e) (J2_2.at fun o e => up _ o D.i2z e) hT₈ hz8 fun c o c1 c2 q1 q2 e => up c o c1 (K2 c o c1 c2 q1 q2 e)
  · simp only [Bool.false_eq_true, if_false]
    have K0 : ∀ c o, c ≠ z → s.heap.get? c = some o → h₁.get? c = some o := fun c o c1 e => hs₁.extBut _ _ c1 e
    have J1_0 : h₁.IsTupleIter i1 l1 k := h1.at fun o e => K0 _ o D.i1z e
    have L1_0 : h₁.IsTuple l1 xs1 := hl1.at' fun o e => K0 _ o D.l1z e
    have J2_0 : h₁.IsTupleIter i2 l2 k := h2.at fun o e => K0 _ o D.i2z e
    have L2_0 : h₁.IsTuple l2 xs2 := hl2.at' fun o e => K0 _ o D.l2z e
    refine wpAny_bind ?_
    rw [← Array.forIn_toList]
    simp only [List.forIn_cons, List.forIn_nil]
    refine wpAny_bind (wpAny_bind (wpAny_holding ?_))
    show wpAny _ _ (Builtin.SmallTypes.nextOf (.ref i1) >>= _) _ _ _
    refine wpAny_bind (RZ.nextOf_tuple_item (s := { s with heap := h₁ }) J1_0 L1_0 hx1 fun g1 m1 gs1 => wpAny_pure ?_)
    refine wpAny_pure ?_
    have J1_1 : g1.IsTupleIter i1 l1 (k + 1) := m1
    have L1_1 : g1.IsTuple l1 xs1 := L1_0.extBut gs1.extBut D.l1i1
    have J2_1 : g1.IsTupleIter i2 l2 k := J2_0.extBut gs1.extBut D.i1i2.symm
    have L2_1 : g1.IsTuple l2 xs2 := L2_0.extBut gs1.extBut D.l2i1
    refine wpAny_bind (wpAny_bind (wpAny_holding ?_))
    show wpAny _ _ (Builtin.SmallTypes.nextOf (.ref i2) >>= _) _ _ _
    refine wpAny_bind (RZ.nextOf_tuple_item (s := { s with heap := g1 }) J2_1 L2_1 hx2 fun g2 m2 gs2 => wpAny_pure ?_)
    refine wpAny_pure (wpAny_pure ?_)
    have J1_2 : g2.IsTupleIter i1 l1 (k + 1) := J1_1.extBut gs2.extBut D.i1i2
    have L1_2 : g2.IsTuple l1 xs1 := L1_1.extBut gs2.extBut D.l1i2
    have J2_2 : g2.IsTupleIter i2 l2 (k + 1) := m2
    have L2_2 : g2.IsTuple l2 xs2 := L2_1.extBut gs2.extBut D.l2i2
    show wpAny _ _ (newTuple [x1, x2] >>= _) _ _ _
    refine wpAny_bind (wpAny_newTuple ?_)
    have hsz' : g2.objs.size = s.heap.objs.size := by rw [gs2.1, gs1.1, hs₁.1]
    have hz3 : IsZipF g2 z TI TO f0 true := (gs2.extBut _ _ D.i2z.symm (gs1.extBut _ _ D.i1z.symm hz₁))
    have hk : ∀ c o, c ≠ z → c ≠ i1 → c ≠ i2 → s.heap.get? c = some o → g2.get? c = some o := fun c o c1 q1 q2 e => (gs2.extBut _ _ q2 (gs1.extBut _ _ q1 (K0 c o c1 e)))
    refine wpAny_pure ⟨_, rfl, ?_⟩
    show Q (.ref g2.objs.size) _
    have hp : IsTupA (g2.push { cls := .type "tuple", data := .seq #[x1, x2] }) g2.objs.size #[x1, x2] := Heap.get?_push_size _ rfl
    have hz4 : (g2.push { cls := .type "tuple", data := .seq #[x1, x2] }).objs.size = g2.objs.size + 1 := Heap.size_push ..
    rw [hsz'] at hp hz4 ⊢
    exact hQ _ _ _ _ hf0 (Heap.get?_push_of_some _ hz3) (Heap.get?_push_of_some _ (hk _ _ D.TOz D.TOi1 D.TOi2 hTO)) hsz (J1_2.at fun o e => Heap.get?_push_of_some _ e) (J2_2.at fun o e => Heap.get?_push_of_some _ e) hp hz4 fun c o c1 c2 q1 q2 e => Heap.get?_push_of_some _ (hk c o c1 q1 q2 e)
theorem z2_next_end {z TI TO i1 i2 l1 l2 : Addr} {k : Nat} {xs1 xs2 : Array Value} {f0 : Value} {f1 : Bool} {arr : Array Value} {Q : Fin → Shared → Prop} (hh : A.handled = none) (D : ZA2 z TI TO i1 i2 l1 l2) (hz : IsZipF s.heap z TI TO f0 f1) (hf0 : OwnF f0) (hTI : IsTupA s.heap TI #[.ref i1, .ref i2]) (hTO : IsTupA s.heap TO arr) (hsz : arr.size = 2) (h1 : s.heap.IsTupleIter i1 l1 k) (h2 : s.heap.IsTupleIter i2 l2 k) (hl1 : s.heap.IsTuple l1 xs1) (hl2 : s.heap.IsTuple l2 xs2) (hx : xs1[k]? = none)
    (hE : ∀ h' e, (∀ c o, c ≠ z → c ≠ TO → c ≠ i1 → c ≠ i2 → s.heap.get? c = some o → h'.get? c = some o) → (∃ o, h'.get? e = some o ∧ o.cls = .type "StopIteration") → E (.ref e) { s with heap := h' }) :
    wpAny (model prog w) A (Builtin.«zip.__next__» ⟨[.ref z], []⟩) Q E s := by
  show wpAny _ _ (field (.ref z) 2 >>= _) _ _ _
  refine wpAny_bind (wpAny_field hz rfl (x := .bool false) rfl ?_)
  show wpAny _ _ (field (.ref z) 3 >>= _) _ _ _
  refine wpAny_bind (wpAny_field hz rfl (x := .ref TI) rfl ?_)
  refine wpAny_bind (wpAny_seqItems hTI rfl ?_)
  show wpAny _ _ (Builtin.SmallTypes.ownedTupleIsFree (.ref z) >>= _) _ _ _
  refine wpAny_bind (owned_any hz hf0 ?_ fun h₁ hz₁ hs₁ => ?_)
  · simp only [if_true]
    refine wpAny_bind (wpAny_rule ?_)
    refine wpAny_bind (wpAny_field hz rfl (x := .ref TO) rfl ?_)
    refine wpAny_bind (wpAny_setField_rec hz (by simp) fun h₀ hz₀ hs₀ => ?_)
    replace hz₀ : IsZipF h₀ z TI TO .ellipsis f1 := hz₀
    refine wpAny_bind ?_
    simp only [List.zipIdx_cons, List.zipIdx_nil, List.forIn_cons, List.forIn_nil]
    refine wpAny_bind (wpAny_bind (wpAny_onRaise ?_))
    show wpAny _ _ (Builtin.SmallTypes.nextOf (.ref i1) >>= _) _ _ _
    refine wpAny_bind (RZ.nextOf_tuple_end hh (h1.extBut hs₀.extBut D.i1z) (hl1.extBut hs₀.extBut D.l1z) hx fun h₂ e hs₂ he => ?_)
    obtain ⟨oe, hoe, hce⟩ := he
    have hz₂ : IsZipF h₂ z TI TO .ellipsis f1 := hs₂ _ _ D.i1z.symm hz₀
    have hez : e ≠ z := fun x => by subst x; rw [hz₂] at hoe; cases hoe; simp at hce
    refine wpAny_setField_rec hz₂ (by simp) fun h₃ _ hs₃ => hE h₃ e (fun c o c1 _ c3 _ x => hs₃.extBut _ _ c1 (hs₂ _ _ c3 (hs₀.extBut _ _ c1 x))) ⟨oe, hs₃.extBut _ _ hez hoe, hce⟩
  · simp only [Bool.false_eq_true, if_false]
    refine wpAny_bind ?_
    rw [← Array.forIn_toList]
    simp only [List.forIn_cons, List.forIn_nil]
    refine wpAny_bind (wpAny_bind (wpAny_holding ?_))
    show wpAny _ _ (Builtin.SmallTypes.nextOf (.ref i1) >>= _) _ _ _
    refine wpAny_bind (RZ.nextOf_tuple_end (s := { s with heap := h₁ }) hh (h1.extBut hs₁.extBut D.i1z) (hl1.extBut hs₁.extBut D.l1z) hx fun h₂ e hs₂ he => ?_)
    exact hE h₂ e (fun c o c1 _ c3 _ x => hs₂ _ _ c3 (hs₁.extBut _ _ c1 x)) he
theorem z2_pyNext_item {z TI TO i1 i2 l1 l2 : Addr} {k : Nat} {xs1 xs2 : Array Value} {f0 : Value} {f1 : Bool} {arr : Array Value} {x1 x2 : Value} {Q : Option Value → Shared → Prop} (D : ZA2 z TI TO i1 i2 l1 l2) (hz : IsZipF s.heap z TI TO f0 f1) (hf0 : OwnF f0) (hTI : IsTupA s.heap TI #[.ref i1, .ref i2]) (hTO : IsTupA s.heap TO arr) (hsz : arr.size = 2) (h1 : s.heap.IsTupleIter i1 l1 k) (h2 : s.heap.IsTupleIter i2 l2 k) (hl1 : s.heap.IsTuple l1 xs1) (hl2 : s.heap.IsTuple l2 xs2) (hx1 : xs1[k]? = some x1) (hx2 : xs2[k]? = some x2)
    (hQ : ∀ h' f0' f1' arr', OwnF f0' → IsZipF h' z TI TO f0' f1' → IsTupA h' TO arr' → arr'.size = 2 → h'.IsTupleIter i1 l1 (k + 1) → h'.IsTupleIter i2 l2 (k + 1) → IsTupA h' s.heap.objs.size #[x1, x2] → h'.objs.size = s.heap.objs.size + 1 → (∀ c o, c ≠ z → c ≠ TO → c ≠ i1 → c ≠ i2 → s.heap.get? c = some o → h'.get? c = some o) → Q (some (.ref s.heap.objs.size)) { s with heap := h' }) : wpAny (model prog w) A (pyNext (.ref z)) Q E s := by
  have hT : s.TypeIs (.ref z) "zip" := ⟨_, hz, rfl⟩
  unfold pyNext
  exact wpAny_bind (wpAny_attempt (wpAny_callSpecial?_slot (name := Str.ofString "__next__") hT F.slot_zip_next
    (wpAny_call_entry F.slot_zip_next hT F.entry_zip_next
      (z2_next_item D hz hf0 hTI hTO hsz h1 h2 hl1 hl2 hx1 hx2 fun h' b0 b1 b2 b3 b4 b5 b6 b7 b8 b9 b10 b11 => wpAny_pure (hQ h' b0 b1 b2 b3 b4 b5 b6 b7 b8 b9 b10 b11)) (F.args_zip_next_1 _))))
theorem z2_pyNext_end {z TI TO i1 i2 l1 l2 : Addr} {k : Nat} {xs1 xs2 : Array Value} {f0 : Value} {f1 : Bool} {arr : Array Value} {Q : Option Value → Shared → Prop} (hh : A.handled = none) (D : ZA2 z TI TO i1 i2 l1 l2) (hz : IsZipF s.heap z TI TO f0 f1) (hf0 : OwnF f0) (hTI : IsTupA s.heap TI #[.ref i1, .ref i2]) (hTO : IsTupA s.heap TO arr) (hsz : arr.size = 2) (h1 : s.heap.IsTupleIter i1 l1 k) (h2 : s.heap.IsTupleIter i2 l2 k) (hl1 : s.heap.IsTuple l1 xs1) (hl2 : s.heap.IsTuple l2 xs2) (hx : xs1[k]? = none)
    (hQ : ∀ h', (∀ c o, c ≠ z → c ≠ TO → c ≠ i1 → c ≠ i2 → s.heap.get? c = some o → h'.get? c = some o) → Q none { s with heap := h' }) : wpAny (model prog w) A (pyNext (.ref z)) Q E s := by
  have hT : s.TypeIs (.ref z) "zip" := ⟨_, hz, rfl⟩
  unfold pyNext
  refine wpAny_bind (wpAny_attempt (wpAny_callSpecial?_slot (name := Str.ofString "__next__") hT F.slot_zip_next
    (wpAny_call_entry F.slot_zip_next hT F.entry_zip_next (z2_next_end hh D hz hf0 hTI hTO hsz h1 h2 hl1 hl2 hx fun h' e hk he => ?_) (F.args_zip_next_1 _))))
  obtain ⟨o, ho, hc⟩ := he
  refine wpAny_bind (wpAny_isInstance (T := "StopIteration") (b := true) ⟨o, ho, hc⟩ isSubtype_stop ?_)
  exact wpAny_pure (hQ _ hk)
end
abbrev zt2H1 (h : Heap) (l1 : Addr) : Heap := h.push { cls := .type "tuple_iterator", data := .fields #[.ref l1, .int 0 0] }
abbrev zt2H2 (h : Heap) (l1 l2 : Addr) : Heap := (zt2H1 h l1).push { cls := .type "tuple_iterator", data := .fields #[.ref l2, .int 0 0] }
abbrev zt2TI (h : Heap) (l1 l2 : Addr) : Heap := (zt2H2 h l1 l2).push { cls := .type "tuple", data := .seq #[.ref h.objs.size, .ref (zt2H1 h l1).objs.size] }
abbrev zt2TO (h : Heap) (l1 l2 : Addr) : Heap := (zt2TI h l1 l2).push { cls := .type "tuple", data := .seq #[.none, .none] }
abbrev zt2Z (h : Heap) (l1 l2 : Addr) : Heap := (zt2TO h l1 l2).push { cls := .type "zip", data := .fields #[.none, .bool false, .bool false, .ref (zt2H2 h l1 l2).objs.size, .ref (zt2TI h l1 l2).objs.size] }
theorem meets_z2_new (l1 l2 : Addr) (xs1 xs2 : Array Value) :
    Meets (Builtin.«zip.__new__» ⟨[.type "zip", .ref l1, .ref l2], []⟩) (fun _ R s => s.heap.IsTuple l1 xs1 ∧ s.heap.IsTuple l2 xs2 ∧
      R (.ok (.ret (.ref (zt2TO s.heap l1 l2).objs.size))) { s with heap := zt2Z s.heap l1 l2 }) :=
  .of_wp fun prog w A R s h => by
    obtain ⟨hp, g, d, tk, os⟩ := s; obtain ⟨hl1, hl2, h⟩ := h
    have hsub := sub_zip
    have hL1 : Heap.IsTuple (Shared.heap ⟨hp, g, d, tk, os⟩) l1 xs1 := hl1
    have hL2 : Heap.IsTuple (Shared.heap ⟨(zt2H1 hp l1), g, d, tk, os⟩) l2 xs2 := Heap.IsTuple.push (hl2) _
    wp_walk using wpAny_pyIter_tuple hL1, wpAny_pyIter_tuple hL2
    exact ⟨_, rfl, h⟩
section
variable {prog : Program} {w : World} {A : Around} {E : Value → Shared → Prop} {s : Shared}
theorem call_z2 {l1 l2 : Addr} {xs1 xs2 : Array Value} {Q : Value → Shared → Prop} (hl1 : s.heap.IsTuple l1 xs1) (hl2 : s.heap.IsTuple l2 xs2)
    (h : ∀ h', IsZipF h' (s.heap.objs.size + 4) (s.heap.objs.size + 2) (s.heap.objs.size + 3) .none false → IsTupA h' (s.heap.objs.size + 2) #[.ref s.heap.objs.size, .ref (s.heap.objs.size + 1)] → IsTupA h' (s.heap.objs.size + 3) #[.none, .none] → h'.IsTupleIter s.heap.objs.size l1 0 → h'.IsTupleIter (s.heap.objs.size + 1) l2 0 → h'.objs.size = (s.heap.objs.size + 5) → (∀ c o, s.heap.get? c = some o → h'.get? c = some o) → Q (.ref (s.heap.objs.size + 4)) { s with heap := h' }) :
    wpAny (model prog w) A (call (.type "zip") [.ref l1, .ref l2]) Q E s := by
  refine callType_new F.called_zip (by decide) (F.typeCall_zip_2 _ _) (F.newCall_zip_2 _ _) (fun obj => F.args_object_init_3 obj _ _) F.entry_zip_new (meets_z2_new l1 l2 xs1 xs2) ⟨hl1, hl2, ?_⟩
  have z1 : (zt2H1 s.heap l1).objs.size = (s.heap.objs.size + 1) := Heap.size_push ..
  have z2 : (zt2H2 s.heap l1 l2).objs.size = (s.heap.objs.size + 2) := by rw [Heap.size_push, z1]
  have z3 : (zt2TI s.heap l1 l2).objs.size = (s.heap.objs.size + 3) := by rw [Heap.size_push, z2]
  have z4 : (zt2TO s.heap l1 l2).objs.size = (s.heap.objs.size + 4) := by rw [Heap.size_push, z3]
  have z5 : (zt2Z s.heap l1 l2).objs.size = (s.heap.objs.size + 5) := by rw [Heap.size_push, z4]
  have g0 : (zt2Z s.heap l1 l2).get? s.heap.objs.size = some _ := Heap.get?_push_of_some _ (Heap.get?_push_of_some _ (Heap.get?_push_of_some _ (Heap.get?_push_of_some _ (Heap.get?_push_size _ rfl))))
  have g1 : (zt2Z s.heap l1 l2).get? (zt2H1 s.heap l1).objs.size = some _ := Heap.get?_push_of_some _ (Heap.get?_push_of_some _ (Heap.get?_push_of_some _ (Heap.get?_push_size _ rfl)))
  have g2 : (zt2Z s.heap l1 l2).get? (zt2H2 s.heap l1 l2).objs.size = some _ := Heap.get?_push_of_some _ (Heap.get?_push_of_some _ (Heap.get?_push_size _ rfl))
  have g3 : (zt2Z s.heap l1 l2).get? (zt2TI s.heap l1 l2).objs.size = some _ := Heap.get?_push_of_some _ (Heap.get?_push_size _ rfl)
  have g4 : (zt2Z s.heap l1 l2).get? (zt2TO s.heap l1 l2).objs.size = some _ := Heap.get?_push_size _ rfl
  show _ ∧ _
  rw [z2, z3, z4] at g4
  rw [z1, z2] at g2
  rw [z3] at g3
  rw [z1] at g1
  rw [z4]
  exact ⟨⟨_, g4, rfl⟩, h _ g4 g2 g3 ⟨_, g0, rfl, rfl⟩ ⟨_, g1, rfl, rfl⟩ z5 fun c o x => Heap.get?_push_of_some _ (Heap.get?_push_of_some _ (Heap.get?_push_of_some _ (Heap.get?_push_of_some _ (Heap.get?_push_of_some _ (x)))))⟩
end
/-- the 2 tuples as they stand at each turn, the items in a new tuple -/
def ItS2 (K : PySem.W.Frag) (a1 a2 : Addr) : It :=
  ⟨fun i H => ∃ (xs1 xs2 : List V) (x1 x2 : V), SqT K H a1 xs1 ∧ SqT K H a2 xs2 ∧ xs1[i]? = some x1 ∧ xs2[i]? = some x2,
    fun i H v H' => ∃ T x1 x2, v = .ref T ∧ H T = none ∧ H' = upd H T (.tup [x1, x2]) ∧ (∀ ys, SqT K H a1 ys → ys[i]? = some x1) ∧ (∀ ys, SqT K H a2 ys → ys[i]? = some x2),
    fun i H => ∃ (xs1 xs2 : List V), SqT K H a1 xs1 ∧ SqT K H a2 xs2 ∧ xs1.length ≤ i⟩
theorem turn_S2 {P : Program} {w : World} {K : PySem.W.Frag} {nm : Str} {tpos : Pos} {z TI TO i1 i2 a1 a2 : Addr} (D : ZA2 z TI TO i1 i2 a1 a2) : Turn P w K (.Name nm tpos) (ItS2 K a1 a2) [z, TI, TO, i1, i2] z (fun i h => ∃ f0 f1 arr, OwnF f0 ∧ IsZipF h z TI TO f0 f1 ∧ IsTupA h TI #[.ref i1, .ref i2] ∧ IsTupA h TO arr ∧ arr.size = 2 ∧ h.IsTupleIter i1 a1 i ∧ h.IsTupleIter i2 a2 i) where
  mem := by simp
  obj := fun i h st c hc => by
    obtain ⟨f0, f1, arr, hf0, hz, hTI, hTO, hsz, ⟨o1, e1, _, d1⟩, ⟨o2, e2, _, d2⟩⟩ := st
    have e' : c = z ∨ c = TI ∨ c = TO ∨ c = i1 ∨ c = i2 := by simpa using hc
    rcases e' with q | q | q | q | q
    · rw [q]; exact ⟨_, hz, fun v q => nomatch q⟩
    · rw [q]; exact ⟨_, hTI, fun v q => nomatch q⟩
    · rw [q]; exact ⟨_, hTO, fun v q => nomatch q⟩
    · rw [q]; exact ⟨o1, e1, fun v q => by rw [d1] at q; cases q⟩
    · rw [q]; exact ⟨o2, e2, fun v q => by rw [d2] at q; cases q⟩
  keep := fun i h h' st k => by
    obtain ⟨f0, f1, arr, hf0, hz, hTI, hTO, hsz, h1, h2⟩ := st
    exact ⟨f0, f1, arr, hf0, k z (by simp) _ hz, k TI (by simp) _ hTI, k TO (by simp) _ hTO, hsz, h1.at fun o q => k i1 (by simp) o q, h2.at fun o q => k i2 (by simp) o q⟩
  item := by
    intro X hP hw hK hc i pins s σ H E I hf st hg
    subst hP hw hK
    obtain ⟨f0, f1, arr, hf0, hz, hTI, hTO, hsz, h1, h2⟩ := st
    obtain ⟨xs1, xs2, x1, x2, hq1, hq2, hx1, hx2⟩ := hg
    obtain ⟨its1, rv1, p1, _⟩ := I.tuple hq1
    obtain ⟨w1, hw1, rw1⟩ := rv1.get hx1
    obtain ⟨its2, rv2, p2, _⟩ := I.tuple hq2
    obtain ⟨w2, hw2, rw2⟩ := rv2.get hx2
    have hzl : z < s.heap.objs.size := Heap.lt_size hz
    refine z2_pyNext_item D hz hf0 hTI hTO hsz h1 h2 p1 p2 (by simpa using hw1) (by simpa using hw2) fun h' f0' f1' arr' hf0' hz' TO' hsz' h1' h2' hT hsz2 hk => ?_
    refine ⟨_, rfl, wpAny_pure ?_⟩
    have new : ObjOk X.prog X.w (upd H s.heap.objs.size (.tup [x1, x2])) h' s.heap.objs.size (.tup [x1, x2]) := ⟨by show 2 ≤ sizeLine; decide, [w1, w2], .cons rw1 (.cons rw2 (.nil)), ⟨_, hT, rfl, _, rfl⟩⟩
    have I1 : Inv X pins σ (upd H s.heap.objs.size (.tup [x1, x2])) { s with heap := h' } :=
      I.turnedNew (t' := s.toks) (ch := [z, TI, TO, i1, i2]) (fun c o hb q => hk c o (fun q' => hb (by simp [q'])) (fun q' => hb (by simp [q'])) (fun q' => hb (by simp [q'])) (fun q' => hb (by simp [q'])) q) hf (Nat.le_refl _) new
    refine ⟨.ref s.heap.objs.size, _, I1, rfl, ⟨_, x1, x2, rfl, I.hok.fresh (Nat.le_refl _), rfl, fun l hl => by rw [I.tuple_inj hl hq1]; exact hx1, fun l hl => by rw [I.tuple_inj hl hq2]; exact hx2⟩, ⟨f0', f1', arr', hf0', hz', ?_, TO', hsz', h1', h2'⟩, fun c hcm => ?_⟩
    · exact hk _ _ D.TIz D.TITO D.TIi1 D.TIi2 hTI
    · have hlt : c < s.heap.objs.size := by
        have e' : c = z ∨ c = TI ∨ c = TO ∨ c = i1 ∨ c = i2 := by simpa using hcm
        rcases e' with q | q | q | q | q
        · rw [q]; exact hzl
        · rw [q]; exact Heap.lt_size hTI
        · rw [q]; exact Heap.lt_size hTO
        · rw [q]; obtain ⟨_, e1, _⟩ := h1; exact Heap.lt_size e1
        · rw [q]; obtain ⟨_, e1, _⟩ := h2; exact Heap.lt_size e1
      rw [upd_ne (Nat.ne_of_lt hlt)]
      exact (hf c hcm).1
  done := by
    intro X hP hw hK hc i pins s σ H E I hf st hg
    subst hP hw hK
    obtain ⟨f0, f1, arr, hf0, hz, hTI, hTO, hsz, h1, h2⟩ := st
    obtain ⟨xs1, xs2, hq1, hq2, hend⟩ := hg
    obtain ⟨its1, rv1, p1, _⟩ := I.tuple hq1
    obtain ⟨its2, rv2, p2, _⟩ := I.tuple hq2
    have l1 := rv1.length
    exact z2_pyNext_end (I.ok.hd hc) D hz hf0 hTI hTO hsz h1 h2 p1 p2 (by simp; omega) fun h' hk => ⟨rfl, I.turnedL (t' := s.toks) (ch := [z, TI, TO, i1, i2]) (fun c o hb q => hk c o (fun q' => hb (by simp [q'])) (fun q' => hb (by simp [q'])) (fun q' => hb (by simp [q'])) (fun q' => hb (by simp [q'])) q) hf⟩
  self := fun A i s Q E st h => by
    obtain ⟨f0, f1, arr, hf0, hz, _⟩ := st
    exact pyIter_zipF hz h
end Hs
namespace Hs
open PySem PySem.Spec PyProof.Rows L2
/-! ### for a, b in zip(text, list): a text of plain signs -/
theorem _root_.PySem.Heap.IsStrIter.at {h h' : Heap} {a : Addr} {ty : String} {x : Str} {t : Tok} {i : Nat} (y : h.IsStrIter a ty x t i) (e : ∀ o, h.get? a = some o → h'.get? a = some o) : h'.IsStrIter a ty x t i := let ⟨o, ho, r⟩ := y; ⟨o, e o ho, r⟩
section
variable {prog : Program} {w : World} {A : Around} {E : Value → Shared → Prop} {s : Shared}
theorem zt_next_item {z TI TO i1 i2 l2 : Addr} {k : Nat} {X : Str} {t : Tok} {xs2 : Array Value} {f0 : Value} {f1 : Bool} {arr : Array Value} {cp : Nat} {x2 : Value} {Q : Value → Shared → Prop} (D : ZA2 z TI TO i1 i2 l2 l2) (hz : IsZipF s.heap z TI TO f0 f1) (hf0 : OwnF f0) (hTI : IsTupA s.heap TI #[.ref i1, .ref i2]) (hTO : IsTupA s.heap TO arr) (hsz : arr.size = 2) (h1 : s.heap.IsStrIter i1 "str_ascii_iterator" X t k) (h2 : s.heap.IsListIter i2 l2 k) (hl2 : s.heap.IsList l2 xs2) (hx1 : X.cps[k]? = some cp) (hx2 : xs2[k]? = some x2)
    (hQ : ∀ h' f0' f1' arr', OwnF f0' → IsZipF h' z TI TO f0' f1' → IsTupA h' TO arr' → arr'.size = 2 → h'.IsStrIter i1 "str_ascii_iterator" X t (k + 1) → h'.IsListIter i2 l2 (k + 1) → IsTupA h' s.heap.objs.size #[.str ⟨#[cp]⟩ s.toks, x2] → h'.objs.size = s.heap.objs.size + 1 → (∀ c o, c ≠ z → c ≠ TO → c ≠ i1 → c ≠ i2 → s.heap.get? c = some o → h'.get? c = some o) → Q (.ref s.heap.objs.size) { s with heap := h', toks := s.toks + 1 }) :
    wpAny (model prog w) A (Builtin.«zip.__next__» ⟨[.ref z], []⟩) (fun fin s' => ∃ v, fin = .done (.ret v) ∧ Q v s') E s := by
  show wpAny _ _ (field (.ref z) 2 >>= _) _ _ _
  refine wpAny_bind (wpAny_field hz rfl (x := .bool false) rfl ?_)
  show wpAny _ _ (field (.ref z) 3 >>= _) _ _ _
  refine wpAny_bind (wpAny_field hz rfl (x := .ref TI) rfl ?_)
  refine wpAny_bind (wpAny_seqItems hTI rfl ?_)
  show wpAny _ _ (Builtin.SmallTypes.ownedTupleIsFree (.ref z) >>= _) _ _ _
  refine wpAny_bind (owned_any hz hf0 ?_ fun h₁ hz₁ hs₁ => ?_)
  · simp only [if_true]
    refine wpAny_bind (wpAny_rule ?_)
    refine wpAny_bind (wpAny_field hz rfl (x := .ref TO) rfl ?_)
    refine wpAny_bind (wpAny_setField_rec hz (by simp) fun h₀ hz₀ hs₀ => ?_)
    replace hz₀ : IsZipF h₀ z TI TO .ellipsis f1 := hz₀
    have K0 : ∀ c o, c ≠ z → s.heap.get? c = some o → h₀.get? c = some o := fun c o c1 e => hs₀.extBut _ _ c1 e
    have N0 : h₀.objs.size = s.heap.objs.size := hs₀.1
    have T0 : IsTupA h₀ TO arr := K0 _ _ D.TOz hTO
    have J1_0 : h₀.IsStrIter i1 "str_ascii_iterator" X t k := h1.at fun o e => K0 _ o D.i1z e
    have J2_0 : h₀.IsListIter i2 l2 k := h2.at fun o e => K0 _ o D.i2z e
    have L2_0 : h₀.IsList l2 xs2 := hl2.at fun o e => K0 _ o D.l2z e
    refine wpAny_bind ?_
    simp only [List.zipIdx_cons, List.zipIdx_nil, List.forIn_cons, List.forIn_nil]
    refine wpAny_bind (wpAny_bind (wpAny_onRaise ?_))
    show wpAny _ _ (Builtin.SmallTypes.nextOf (.ref i1) >>= _) _ _ _
    refine wpAny_bind (wpAny_nextOf_ascii_item J1_0 hx1 fun g1 m1 gs1 => wpAny_pure ?_)
    have V1 : IsTupA g1 TO (arr) := gs1.extBut _ _ D.TOi1 T0
    refine wpAny_bind (wpAny_seqItems V1 rfl ?_)
    refine wpAny_bind (upSeq V1 (by simp [hsz]) fun u1 T1 us1 => ?_)
    refine wpAny_bind (wpAny_letGo (wpAny_pure ?_))
    have J1_1 : u1.IsStrIter i1 "str_ascii_iterator" X t (k + 1) := m1.extBut us1.extBut D.TOi1.symm
    have J2_1 : u1.IsListIter i2 l2 k := (J2_0.extBut gs1.extBut D.i1i2.symm).extBut us1.extBut D.TOi2.symm
    have L2_1 : u1.IsList l2 xs2 := (L2_0.extBut gs1.extBut D.l2i1).extBut us1.extBut D.l2TO
    have K1 : ∀ c o, c ≠ z → c ≠ TO → c ≠ i1 → s.heap.get? c = some o → u1.get? c = some o := fun c o c1 c2 q1 e => us1.extBut _ _ c2 (gs1.extBut _ _ q1 (K0 c o c1  e))
    have Z1 : IsZipF u1 z TI TO .ellipsis f1 := us1.extBut _ _ D.TOz.symm (gs1.extBut _ _ D.i1z.symm hz₀)
    have N1 : u1.objs.size = s.heap.objs.size := by rw [us1.1, gs1.1, N0]
    refine wpAny_bind (wpAny_bind (wpAny_onRaise ?_))
    show wpAny _ _ (Builtin.SmallTypes.nextOf (.ref i2) >>= _) _ _ _
    refine wpAny_bind (wpAny_nextOf_list_item J2_1 L2_1 hx2 fun g2 m2 gs2 => wpAny_pure ?_)
    have V2 : IsTupA g2 TO ((arr).setIfInBounds 0 (.str ⟨#[cp]⟩ s.toks)) := gs2.extBut _ _ D.TOi2 T1
    refine wpAny_bind (wpAny_seqItems V2 rfl ?_)
    refine wpAny_bind (upSeq V2 (by simp [hsz]) fun u2 T2 us2 => ?_)
    refine wpAny_bind (wpAny_letGo (wpAny_pure ?_))
    have J1_2 : u2.IsStrIter i1 "str_ascii_iterator" X t (k + 1) := (J1_1.extBut gs2.extBut D.i1i2).extBut us2.extBut D.TOi1.symm
    have J2_2 : u2.IsListIter i2 l2 (k + 1) := m2.extBut us2.extBut D.TOi2.symm
    have L2_2 : u2.IsList l2 xs2 := (L2_1.extBut gs2.extBut D.l2i2).extBut us2.extBut D.l2TO
    have K2 : ∀ c o, c ≠ z → c ≠ TO → c ≠ i1 → c ≠ i2 → s.heap.get? c = some o → u2.get? c = some o := fun c o c1 c2 q1 q2 e => us2.extBut _ _ c2 (gs2.extBut _ _ q2 (K1 c o c1 c2 q1 e))
    have Z2 : IsZipF u2 z TI TO .ellipsis f1 := us2.extBut _ _ D.TOz.symm (gs2.extBut _ _ D.i2z.symm Z1)
    have N2 : u2.objs.size = s.heap.objs.size := by rw [us2.1, gs2.1, N1]
    refine wpAny_pure ?_
    refine wpAny_bind (wpAny_seqItems T2 rfl ?_)
    have ea : (((arr).setIfInBounds 0 (.str ⟨#[cp]⟩ s.toks)).setIfInBounds 1 x2) = #[.str ⟨#[cp]⟩ s.toks, x2] := set2 hsz
    rw [ea] at T2 ⊢
    refine wpAny_bind (wpAny_newTuple ?_)
    show wpAny _ _ (Builtin.SmallTypes.ownedTupleHandOut (.ref z) (.ref u2.objs.size) >>= _) _ _ _
    refine wpAny_bind ?_
    unfold Builtin.SmallTypes.ownedTupleHandOut
    have zlt : z < u2.objs.size := Heap.lt_size Z2
    have hz₆ : IsZipF (u2.push { cls := .type "tuple", data := .seq #[.str ⟨#[cp]⟩ s.toks, x2] }) z TI TO .ellipsis f1 := Heap.get?_push_of_some _ Z2
    refine wpAny_bind (wpAny_setField_rec hz₆ (by simp) fun h₇ hz₇ hs₇ => ?_)
    replace hz₇ : IsZipF h₇ z TI TO (rawInt u2.objs.size) f1 := hz₇
    refine wpAny_setField_rec hz₇ (by simp) fun h₈ hz₈ hs₈ => ?_
    replace hz₈ : IsZipF h₈ z TI TO (rawInt u2.objs.size) false := hz₈
    have up : ∀ c o, c ≠ z → u2.get? c = some o → h₈.get? c = some o := fun c o c1 e => hs₈.extBut _ _ c1 (hs₇.extBut _ _ c1 (Heap.get?_push_of_some _ e))
    have hT₈ : IsTupA h₈ u2.objs.size #[.str ⟨#[cp]⟩ s.toks, x2] := hs₈.extBut _ _ (Nat.ne_of_gt zlt) (hs₇.extBut _ _ (Nat.ne_of_gt zlt) (Heap.get?_push_size _ rfl))
    have hz8 : h₈.objs.size = u2.objs.size + 1 := by rw [hs₈.1, hs₇.1, Heap.size_push]
    refine wpAny_pure ⟨_, rfl, ?_⟩
    show Q (.ref u2.objs.size) _
    rw [N2] at hz₈ hT₈ hz8 ⊢
    exact hQ h₈ _ _ _ (.inr ⟨_, rfl⟩) hz₈ (up _ _ D.TOz T2) rfl (J1_2.at fun o e => up _ o D.i1z e) (J2_2.at fun o e => up _ o D.i2z e) hT₈ hz8 fun c o c1 c2 q1 q2 e => up c o c1 (K2 c o c1 c2 q1 q2 e)
  · simp only [Bool.false_eq_true, if_false]
    have K0 : ∀ c o, c ≠ z → s.heap.get? c = some o → h₁.get? c = some o := fun c o c1 e => hs₁.extBut _ _ c1 e
    have J1_0 : h₁.IsStrIter i1 "str_ascii_iterator" X t k := h1.at fun o e => K0 _ o D.i1z e
    have J2_0 : h₁.IsListIter i2 l2 k := h2.at fun o e => K0 _ o D.i2z e
    have L2_0 : h₁.IsList l2 xs2 := hl2.at fun o e => K0 _ o D.l2z e
    refine wpAny_bind ?_
    rw [← Array.forIn_toList]
    simp only [List.forIn_cons, List.forIn_nil]
    refine wpAny_bind (wpAny_bind (wpAny_holding ?_))
    show wpAny _ _ (Builtin.SmallTypes.nextOf (.ref i1) >>= _) _ _ _
    refine wpAny_bind (wpAny_nextOf_ascii_item (s := { s with heap := h₁ }) J1_0 hx1 fun g1 m1 gs1 => wpAny_pure ?_)
    refine wpAny_pure ?_
    have J1_1 : g1.IsStrIter i1 "str_ascii_iterator" X t (k + 1) := m1
    have J2_1 : g1.IsListIter i2 l2 k := J2_0.extBut gs1.extBut D.i1i2.symm
    have L2_1 : g1.IsList l2 xs2 := L2_0.extBut gs1.extBut D.l2i1
    refine wpAny_bind (wpAny_bind (wpAny_holding ?_))
    show wpAny _ _ (Builtin.SmallTypes.nextOf (.ref i2) >>= _) _ _ _
    refine wpAny_bind (wpAny_nextOf_list_item (s := { s with heap := g1, toks := s.toks + 1 }) J2_1 L2_1 hx2 fun g2 m2 gs2 => wpAny_pure ?_)
    refine wpAny_pure (wpAny_pure ?_)
    have J1_2 : g2.IsStrIter i1 "str_ascii_iterator" X t (k + 1) := J1_1.extBut gs2.extBut D.i1i2
    have J2_2 : g2.IsListIter i2 l2 (k + 1) := m2
    have L2_2 : g2.IsList l2 xs2 := L2_1.extBut gs2.extBut D.l2i2
    show wpAny _ _ (newTuple [.str ⟨#[cp]⟩ s.toks, x2] >>= _) _ _ _
    refine wpAny_bind (wpAny_newTuple ?_)
    have hsz' : g2.objs.size = s.heap.objs.size := by rw [gs2.1, gs1.1, hs₁.1]
    have hz3 : IsZipF g2 z TI TO f0 true := (gs2.extBut _ _ D.i2z.symm (gs1.extBut _ _ D.i1z.symm hz₁))
    have hk : ∀ c o, c ≠ z → c ≠ i1 → c ≠ i2 → s.heap.get? c = some o → g2.get? c = some o := fun c o c1 q1 q2 e => (gs2.extBut _ _ q2 (gs1.extBut _ _ q1 (K0 c o c1 e)))
    refine wpAny_pure ⟨_, rfl, ?_⟩
    show Q (.ref g2.objs.size) _
    have hp : IsTupA (g2.push { cls := .type "tuple", data := .seq #[.str ⟨#[cp]⟩ s.toks, x2] }) g2.objs.size #[.str ⟨#[cp]⟩ s.toks, x2] := Heap.get?_push_size _ rfl
    have hz4 : (g2.push { cls := .type "tuple", data := .seq #[.str ⟨#[cp]⟩ s.toks, x2] }).objs.size = g2.objs.size + 1 := Heap.size_push ..
    rw [hsz'] at hp hz4 ⊢
    exact hQ _ _ _ _ hf0 (Heap.get?_push_of_some _ hz3) (Heap.get?_push_of_some _ (hk _ _ D.TOz D.TOi1 D.TOi2 hTO)) hsz (J1_2.at fun o e => Heap.get?_push_of_some _ e) (J2_2.at fun o e => Heap.get?_push_of_some _ e) hp hz4 fun c o c1 c2 q1 q2 e => Heap.get?_push_of_some _ (hk c o c1 q1 q2 e)
theorem zt_next_end {z TI TO i1 i2 l2 : Addr} {k : Nat} {X : Str} {t : Tok} {xs2 : Array Value} {f0 : Value} {f1 : Bool} {arr : Array Value} {Q : Fin → Shared → Prop} (hh : A.handled = none) (D : ZA2 z TI TO i1 i2 l2 l2) (hz : IsZipF s.heap z TI TO f0 f1) (hf0 : OwnF f0) (hTI : IsTupA s.heap TI #[.ref i1, .ref i2]) (hTO : IsTupA s.heap TO arr) (hsz : arr.size = 2) (h1 : s.heap.IsStrIter i1 "str_ascii_iterator" X t k) (h2 : s.heap.IsListIter i2 l2 k) (hl2 : s.heap.IsList l2 xs2) (hx : X.cps[k]? = none)
    (hE : ∀ h' e, (∀ c o, c ≠ z → c ≠ TO → c ≠ i1 → c ≠ i2 → s.heap.get? c = some o → h'.get? c = some o) → (∃ o, h'.get? e = some o ∧ o.cls = .type "StopIteration") → E (.ref e) { s with heap := h' }) :
    wpAny (model prog w) A (Builtin.«zip.__next__» ⟨[.ref z], []⟩) Q E s := by
  show wpAny _ _ (field (.ref z) 2 >>= _) _ _ _
  refine wpAny_bind (wpAny_field hz rfl (x := .bool false) rfl ?_)
  show wpAny _ _ (field (.ref z) 3 >>= _) _ _ _
  refine wpAny_bind (wpAny_field hz rfl (x := .ref TI) rfl ?_)
  refine wpAny_bind (wpAny_seqItems hTI rfl ?_)
  show wpAny _ _ (Builtin.SmallTypes.ownedTupleIsFree (.ref z) >>= _) _ _ _
  refine wpAny_bind (owned_any hz hf0 ?_ fun h₁ hz₁ hs₁ => ?_)
  · simp only [if_true]
    refine wpAny_bind (wpAny_rule ?_)
    refine wpAny_bind (wpAny_field hz rfl (x := .ref TO) rfl ?_)
    refine wpAny_bind (wpAny_setField_rec hz (by simp) fun h₀ hz₀ hs₀ => ?_)
    replace hz₀ : IsZipF h₀ z TI TO .ellipsis f1 := hz₀
    refine wpAny_bind ?_
    simp only [List.zipIdx_cons, List.zipIdx_nil, List.forIn_cons, List.forIn_nil]
    refine wpAny_bind (wpAny_bind (wpAny_onRaise ?_))
    show wpAny _ _ (Builtin.SmallTypes.nextOf (.ref i1) >>= _) _ _ _
    refine wpAny_bind (wpAny_nextOf_ascii_end hh (h1.extBut hs₀.extBut D.i1z) hx fun h₂ e hs₂ he => ?_)
    obtain ⟨oe, hoe, hce⟩ := he
    have hz₂ : IsZipF h₂ z TI TO .ellipsis f1 := hs₂ _ _ D.i1z.symm hz₀
    have hez : e ≠ z := fun x => by subst x; rw [hz₂] at hoe; cases hoe; simp at hce
    refine wpAny_setField_rec hz₂ (by simp) fun h₃ _ hs₃ => hE h₃ e (fun c o c1 _ c3 _ x => hs₃.extBut _ _ c1 (hs₂ _ _ c3 (hs₀.extBut _ _ c1 x))) ⟨oe, hs₃.extBut _ _ hez hoe, hce⟩
  · simp only [Bool.false_eq_true, if_false]
    refine wpAny_bind ?_
    rw [← Array.forIn_toList]
    simp only [List.forIn_cons, List.forIn_nil]
    refine wpAny_bind (wpAny_bind (wpAny_holding ?_))
    show wpAny _ _ (Builtin.SmallTypes.nextOf (.ref i1) >>= _) _ _ _
    refine wpAny_bind (wpAny_nextOf_ascii_end (s := { s with heap := h₁ }) hh (h1.extBut hs₁.extBut D.i1z) hx fun h₂ e hs₂ he => ?_)
    exact hE h₂ e (fun c o c1 _ c3 _ x => hs₂ _ _ c3 (hs₁.extBut _ _ c1 x)) he
theorem zt_pyNext_item {z TI TO i1 i2 l2 : Addr} {k : Nat} {X : Str} {t : Tok} {xs2 : Array Value} {f0 : Value} {f1 : Bool} {arr : Array Value} {cp : Nat} {x2 : Value} {Q : Option Value → Shared → Prop} (D : ZA2 z TI TO i1 i2 l2 l2) (hz : IsZipF s.heap z TI TO f0 f1) (hf0 : OwnF f0) (hTI : IsTupA s.heap TI #[.ref i1, .ref i2]) (hTO : IsTupA s.heap TO arr) (hsz : arr.size = 2) (h1 : s.heap.IsStrIter i1 "str_ascii_iterator" X t k) (h2 : s.heap.IsListIter i2 l2 k) (hl2 : s.heap.IsList l2 xs2) (hx1 : X.cps[k]? = some cp) (hx2 : xs2[k]? = some x2)
    (hQ : ∀ h' f0' f1' arr', OwnF f0' → IsZipF h' z TI TO f0' f1' → IsTupA h' TO arr' → arr'.size = 2 → h'.IsStrIter i1 "str_ascii_iterator" X t (k + 1) → h'.IsListIter i2 l2 (k + 1) → IsTupA h' s.heap.objs.size #[.str ⟨#[cp]⟩ s.toks, x2] → h'.objs.size = s.heap.objs.size + 1 → (∀ c o, c ≠ z → c ≠ TO → c ≠ i1 → c ≠ i2 → s.heap.get? c = some o → h'.get? c = some o) → Q (some (.ref s.heap.objs.size)) { s with heap := h', toks := s.toks + 1 }) : wpAny (model prog w) A (pyNext (.ref z)) Q E s := by
  have hT : s.TypeIs (.ref z) "zip" := ⟨_, hz, rfl⟩
  unfold pyNext
  exact wpAny_bind (wpAny_attempt (wpAny_callSpecial?_slot (name := Str.ofString "__next__") hT F.slot_zip_next
    (wpAny_call_entry F.slot_zip_next hT F.entry_zip_next
      (zt_next_item D hz hf0 hTI hTO hsz h1 h2 hl2 hx1 hx2 fun h' b0 b1 b2 b3 b4 b5 b6 b7 b8 b9 b10 b11 => wpAny_pure (hQ h' b0 b1 b2 b3 b4 b5 b6 b7 b8 b9 b10 b11)) (F.args_zip_next_1 _))))
theorem zt_pyNext_end {z TI TO i1 i2 l2 : Addr} {k : Nat} {X : Str} {t : Tok} {xs2 : Array Value} {f0 : Value} {f1 : Bool} {arr : Array Value} {Q : Option Value → Shared → Prop} (hh : A.handled = none) (D : ZA2 z TI TO i1 i2 l2 l2) (hz : IsZipF s.heap z TI TO f0 f1) (hf0 : OwnF f0) (hTI : IsTupA s.heap TI #[.ref i1, .ref i2]) (hTO : IsTupA s.heap TO arr) (hsz : arr.size = 2) (h1 : s.heap.IsStrIter i1 "str_ascii_iterator" X t k) (h2 : s.heap.IsListIter i2 l2 k) (hl2 : s.heap.IsList l2 xs2) (hx : X.cps[k]? = none)
    (hQ : ∀ h', (∀ c o, c ≠ z → c ≠ TO → c ≠ i1 → c ≠ i2 → s.heap.get? c = some o → h'.get? c = some o) → Q none { s with heap := h' }) : wpAny (model prog w) A (pyNext (.ref z)) Q E s := by
  have hT : s.TypeIs (.ref z) "zip" := ⟨_, hz, rfl⟩
  unfold pyNext
  refine wpAny_bind (wpAny_attempt (wpAny_callSpecial?_slot (name := Str.ofString "__next__") hT F.slot_zip_next
    (wpAny_call_entry F.slot_zip_next hT F.entry_zip_next (zt_next_end hh D hz hf0 hTI hTO hsz h1 h2 hl2 hx fun h' e hk he => ?_) (F.args_zip_next_1 _))))
  obtain ⟨o, ho, hc⟩ := he
  refine wpAny_bind (wpAny_isInstance (T := "StopIteration") (b := true) ⟨o, ho, hc⟩ isSubtype_stop ?_)
  exact wpAny_pure (hQ _ hk)
end
end Hs
namespace Hs
open PySem PySem.Spec PyProof.Rows L2
theorem letgo_any {prog : Program} {w : World} {A : Around} {E : Value → Shared → Prop} {s : Shared} {elts : List Expr} {kk : Nat} {pos : Pos} {z TI TO T : Addr} {f0 : Value} {f1 : Bool} {Q : Unit → Shared → Prop} (hz : IsZipF s.heap z TI TO f0 f1) (hf : OwnF f0)
    (hQ : ∀ h' f', OwnF f' → IsZipF h' z TI TO f' f1 → Heap.SameBut z s.heap h' → Q () { s with heap := h' }) : wpAny (model prog w) A (letOwnedTupleGo (.Tuple elts kk pos) (.ref z) (.ref T)) Q E s := by
  unfold letOwnedTupleGo
  refine wpAny_bind (wpAny_load hz ?_)
  by_cases hc : (["enumerate", "zip", "dict_itemiterator", "dict_reverseitemiterator", "odict_iterator", "itertools.zip_longest", "itertools.pairwise"].contains "zip" && (#[f0, .bool f1, .bool false, .ref TI, .ref TO] : Array Value)[0]? == some (rawInt T)) = true
  · refine PySem.W.KFB.if_so hc ?_
    refine wpAny_bind (wpAny_rule ?_)
    show wpAny _ _ (setField (.ref z) 0 .none) Q E s
    exact wpAny_setField_rec hz (by simp) fun h' hz' hs' => hQ h' .none (.inl rfl) hz' hs'
  · refine PySem.W.KFB.if_not (Bool.eq_false_iff.mpr hc) ?_
    exact wpAny_pure (hQ s.heap f0 hf hz ⟨rfl, fun _ _ => rfl⟩)
end Hs
namespace Hs
open PySem PySem.Spec PyProof.Rows L2
abbrev zttH1 (h : Heap) (X : Str) (t : Tok) : Heap := h.push { cls := .type "str_ascii_iterator", data := .fields #[.str X t, .int 0 0] }
abbrev zttH2 (h : Heap) (X : Str) (t : Tok) (l2 : Addr) : Heap := (zttH1 h X t).push { cls := .type "list_iterator", data := .fields #[.ref l2, .int 0 0] }
abbrev zttTI (h : Heap) (X : Str) (t : Tok) (l2 : Addr) : Heap := (zttH2 h X t l2).push { cls := .type "tuple", data := .seq #[.ref h.objs.size, .ref (zttH1 h X t).objs.size] }
abbrev zttTO (h : Heap) (X : Str) (t : Tok) (l2 : Addr) : Heap := (zttTI h X t l2).push { cls := .type "tuple", data := .seq #[.none, .none] }
abbrev zttZ (h : Heap) (X : Str) (t : Tok) (l2 : Addr) : Heap := (zttTO h X t l2).push { cls := .type "zip", data := .fields #[.none, .bool false, .bool false, .ref (zttH2 h X t l2).objs.size, .ref (zttTI h X t l2).objs.size] }
theorem meets_zt_new (X : Str) (t : Tok) (l2 : Addr) (xs2 : Array Value) :
    Meets (Builtin.«zip.__new__» ⟨[.type "zip", .str X t, .ref l2], []⟩) (fun _ R s => X.cps.all (· < 128) = true ∧ s.heap.IsList l2 xs2 ∧
      R (.ok (.ret (.ref (zttTO s.heap X t l2).objs.size))) { s with heap := zttZ s.heap X t l2 }) :=
  .of_wp fun prog w A R s h => by
    obtain ⟨hp, g, d, tk, os⟩ := s; obtain ⟨ha, hl2, h⟩ := h
    have hsub := sub_zip
    have hL2 : Heap.IsList (Shared.heap ⟨(zttH1 hp X t), g, d, tk, os⟩) l2 xs2 := Heap.IsList.push (hl2) _
    wp_walk using wpAny_pyIter_ascii ha, wpAny_pyIter_list hL2
    exact ⟨_, rfl, h⟩
section
variable {prog : Program} {w : World} {A : Around} {E : Value → Shared → Prop} {s : Shared}
theorem call_zt {X : Str} {t : Tok} {l2 : Addr} {xs2 : Array Value} {Q : Value → Shared → Prop} (ha : X.cps.all (· < 128) = true) (hl2 : s.heap.IsList l2 xs2)
    (h : ∀ h', IsZipF h' (s.heap.objs.size + 4) (s.heap.objs.size + 2) (s.heap.objs.size + 3) .none false → IsTupA h' (s.heap.objs.size + 2) #[.ref s.heap.objs.size, .ref (s.heap.objs.size + 1)] → IsTupA h' (s.heap.objs.size + 3) #[.none, .none] → h'.IsStrIter s.heap.objs.size "str_ascii_iterator" X t 0 → h'.IsListIter (s.heap.objs.size + 1) l2 0 → h'.objs.size = (s.heap.objs.size + 5) → (∀ c o, s.heap.get? c = some o → h'.get? c = some o) → Q (.ref (s.heap.objs.size + 4)) { s with heap := h' }) :
    wpAny (model prog w) A (call (.type "zip") [.str X t, .ref l2]) Q E s := by
  refine callType_new F.called_zip (by decide) (F.typeCall_zip_2 _ _) (F.newCall_zip_2 _ _) (fun obj => F.args_object_init_3 obj _ _) F.entry_zip_new (meets_zt_new X t l2 xs2) ⟨ha, hl2, ?_⟩
  have z1 : (zttH1 s.heap X t).objs.size = (s.heap.objs.size + 1) := Heap.size_push ..
  have z2 : (zttH2 s.heap X t l2).objs.size = (s.heap.objs.size + 2) := by rw [Heap.size_push, z1]
  have z3 : (zttTI s.heap X t l2).objs.size = (s.heap.objs.size + 3) := by rw [Heap.size_push, z2]
  have z4 : (zttTO s.heap X t l2).objs.size = (s.heap.objs.size + 4) := by rw [Heap.size_push, z3]
  have z5 : (zttZ s.heap X t l2).objs.size = (s.heap.objs.size + 5) := by rw [Heap.size_push, z4]
  have g0 : (zttZ s.heap X t l2).get? s.heap.objs.size = some _ := Heap.get?_push_of_some _ (Heap.get?_push_of_some _ (Heap.get?_push_of_some _ (Heap.get?_push_of_some _ (Heap.get?_push_size _ rfl))))
  have g1 : (zttZ s.heap X t l2).get? (zttH1 s.heap X t).objs.size = some _ := Heap.get?_push_of_some _ (Heap.get?_push_of_some _ (Heap.get?_push_of_some _ (Heap.get?_push_size _ rfl)))
  have g2 : (zttZ s.heap X t l2).get? (zttH2 s.heap X t l2).objs.size = some _ := Heap.get?_push_of_some _ (Heap.get?_push_of_some _ (Heap.get?_push_size _ rfl))
  have g3 : (zttZ s.heap X t l2).get? (zttTI s.heap X t l2).objs.size = some _ := Heap.get?_push_of_some _ (Heap.get?_push_size _ rfl)
  have g4 : (zttZ s.heap X t l2).get? (zttTO s.heap X t l2).objs.size = some _ := Heap.get?_push_size _ rfl
  show _ ∧ _
  rw [z2, z3, z4] at g4
  rw [z1, z2] at g2
  rw [z3] at g3
  rw [z1] at g1
  rw [z4]
  exact ⟨⟨_, g4, rfl⟩, h _ g4 g2 g3 ⟨_, g0, rfl, rfl⟩ ⟨_, g1, rfl, rfl⟩ z5 fun c o x => Heap.get?_push_of_some _ (Heap.get?_push_of_some _ (Heap.get?_push_of_some _ (Heap.get?_push_of_some _ (Heap.get?_push_of_some _ (x)))))⟩
end
/-- the list as it stands at each turn, a sign and its item in a new tuple -/
def ItST (K : PySem.W.Frag) (X : Str) (a2 : Addr) : It :=
  ⟨fun i H => ∃ (xs2 : List V) (c : Nat) (x2 : V), SqL K H a2 xs2 ∧ X.cps[i]? = some c ∧ xs2[i]? = some x2,
    fun i H v H' => ∃ (T : Addr) (c : Nat) (x2 : V), v = .ref T ∧ H T = none ∧ H' = upd H T (.tup [.str ⟨#[c]⟩, x2]) ∧ X.cps[i]? = some c ∧ (∀ ys, SqL K H a2 ys → ys[i]? = some x2),
    fun i H => ∃ (xs2 : List V), SqL K H a2 xs2 ∧ X.cps.size ≤ i⟩
theorem turn_ST {P : Program} {w : World} {K : PySem.W.Frag} {elts : List Expr} {kk : Nat} {tpos : Pos} {z TI TO i1 i2 a2 : Addr} {Y : Str} {t : Tok} (D : ZA2 z TI TO i1 i2 a2 a2) : Turn P w K (.Tuple elts kk tpos) (ItST K Y a2) [z, TI, TO, i1, i2] z (fun i h => ∃ f0 f1 arr, OwnF f0 ∧ IsZipF h z TI TO f0 f1 ∧ IsTupA h TI #[.ref i1, .ref i2] ∧ IsTupA h TO arr ∧ arr.size = 2 ∧ h.IsStrIter i1 "str_ascii_iterator" Y t i ∧ h.IsListIter i2 a2 i) where
  mem := by simp
  obj := fun i h st c hc => by
    obtain ⟨f0, f1, arr, hf0, hz, hTI, hTO, hsz, ⟨o1, e1, _, d1⟩, ⟨o2, e2, _, d2⟩⟩ := st
    have e' : c = z ∨ c = TI ∨ c = TO ∨ c = i1 ∨ c = i2 := by simpa using hc
    rcases e' with q | q | q | q | q
    · rw [q]; exact ⟨_, hz, fun v q => nomatch q⟩
    · rw [q]; exact ⟨_, hTI, fun v q => nomatch q⟩
    · rw [q]; exact ⟨_, hTO, fun v q => nomatch q⟩
    · rw [q]; exact ⟨o1, e1, fun v q => by rw [d1] at q; cases q⟩
    · rw [q]; exact ⟨o2, e2, fun v q => by rw [d2] at q; cases q⟩
  keep := fun i h h' st k => by
    obtain ⟨f0, f1, arr, hf0, hz, hTI, hTO, hsz, h1, h2⟩ := st
    exact ⟨f0, f1, arr, hf0, k z (by simp) _ hz, k TI (by simp) _ hTI, k TO (by simp) _ hTO, hsz, h1.at fun o q => k i1 (by simp) o q, h2.at fun o q => k i2 (by simp) o q⟩
  item := by
    intro X hP hw hK hc i pins s σ H E I hf st hg
    subst hP hw hK
    obtain ⟨f0, f1, arr, hf0, hz, hTI, hTO, hsz, h1, h2⟩ := st
    obtain ⟨xs2, c1, x2, hq2, hx1, hx2⟩ := hg
    obtain ⟨its2, rv2, p2, _⟩ := I.list hq2
    obtain ⟨w2, hw2, rw2⟩ := rv2.get hx2
    have hzl : z < s.heap.objs.size := Heap.lt_size hz
    refine zt_pyNext_item D hz hf0 hTI hTO hsz h1 h2 p2.isList hx1 (by simpa using hw2) fun h3 f3 f1' arr' hf3 hz3 TO3 hsz' h13 h23 hT3 hsz2 hk3 => ?_
    refine ⟨_, rfl, letgo_any (s := { s with heap := h3, toks := s.toks + 1 }) hz3 hf3 fun h' f0' hf0' hz' sb => ?_⟩
    have TO' : IsTupA h' TO arr' := (sb.2 _ D.TOz).trans TO3
    have h1' := h13.at fun o q => (sb.2 _ D.i1z).trans q
    have h2' := h23.at fun o q => (sb.2 _ D.i2z).trans q
    have hT : IsTupA h' s.heap.objs.size _ := (sb.2 _ (Nat.ne_of_gt hzl)).trans hT3
    have hk : ∀ c o, c ≠ z → c ≠ TO → c ≠ i1 → c ≠ i2 → s.heap.get? c = some o → h'.get? c = some o := fun c o c1 c2 c3 c4 e => (sb.2 _ c1).trans (hk3 c o c1 c2 c3 c4 e)
    have new : ObjOk X.prog X.w (upd H s.heap.objs.size (.tup [.str ⟨#[c1]⟩, x2])) h' s.heap.objs.size (.tup [.str ⟨#[c1]⟩, x2]) := ⟨by show 2 ≤ sizeLine; decide, [.str ⟨#[c1]⟩ s.toks, w2], .cons ⟨_, rfl⟩ (.cons rw2 (.nil)), ⟨_, hT, rfl, _, rfl⟩⟩
    have I1 : Inv X pins σ (upd H s.heap.objs.size (.tup [.str ⟨#[c1]⟩, x2])) { s with heap := h', toks := s.toks + 1 } :=
      I.turnedNew (t' := s.toks + 1) (ch := [z, TI, TO, i1, i2]) (fun c o hb q => hk c o (fun q' => hb (by simp [q'])) (fun q' => hb (by simp [q'])) (fun q' => hb (by simp [q'])) (fun q' => hb (by simp [q'])) q) hf (Nat.le_refl _) new
    refine ⟨.ref s.heap.objs.size, _, I1, rfl, ⟨_, c1, x2, rfl, I.hok.fresh (Nat.le_refl _), rfl, hx1, fun l hl => by rw [I.list_inj hl hq2]; exact hx2⟩, ⟨f0', f1', arr', hf0', hz', ?_, TO', hsz', h1', h2'⟩, fun c hcm => ?_⟩
    · exact hk _ _ D.TIz D.TITO D.TIi1 D.TIi2 hTI
    · have hlt : c < s.heap.objs.size := by
        have e' : c = z ∨ c = TI ∨ c = TO ∨ c = i1 ∨ c = i2 := by simpa using hcm
        rcases e' with q | q | q | q | q
        · rw [q]; exact hzl
        · rw [q]; exact Heap.lt_size hTI
        · rw [q]; exact Heap.lt_size hTO
        · rw [q]; obtain ⟨_, e1, _⟩ := h1; exact Heap.lt_size e1
        · rw [q]; obtain ⟨_, e1, _⟩ := h2; exact Heap.lt_size e1
      rw [upd_ne (Nat.ne_of_lt hlt)]
      exact (hf c hcm).1
  done := by
    intro X hP hw hK hc i pins s σ H E I hf st hg
    subst hP hw hK
    obtain ⟨f0, f1, arr, hf0, hz, hTI, hTO, hsz, h1, h2⟩ := st
    obtain ⟨xs2, hq2, hend⟩ := hg
    obtain ⟨its2, rv2, p2, _⟩ := I.list hq2
    exact zt_pyNext_end (I.ok.hd hc) D hz hf0 hTI hTO hsz h1 h2 p2.isList (Array.getElem?_eq_none hend) fun h' hk => ⟨rfl, I.turnedL (t' := s.toks) (ch := [z, TI, TO, i1, i2]) (fun c o hb q => hk c o (fun q' => hb (by simp [q'])) (fun q' => hb (by simp [q'])) (fun q' => hb (by simp [q'])) (fun q' => hb (by simp [q'])) q) hf⟩
  self := fun A i s Q E st h => by
    obtain ⟨f0, f1, arr, hf0, hz, _⟩ := st
    exact pyIter_zipF hz h
theorem neA {a b : Nat} (h : a ≠ b) : (a : Addr) ≠ b := h
theorem apartT (I a2 : Nat) (h2 : a2 < I) : ZA2 (I + 4) (I + 2) (I + 3) I (I + 1) a2 a2 := by
  constructor <;> (refine neA ?_; omega)
def iZipT (K : PySem.W.Frag) (ta : TA) : TI := fun σ H R => ta σ H fun vs H1 => ∃ (z : Str) (b : Addr) (ys : List V), vs = [.str z, .ref b] ∧ z.cps.all (· < 128) = true ∧ SqL K H1 b ys ∧ R (ItST K z b) H1
theorem pi_zipT {X : Cx} {e e2 : Expr} {ta : TA} {p pos tpos : Pos} {elts : List Expr} {kk : Nat} (hg : Gl X "zip") (hm : X.mg "zip" = none) (ha : PA X [e, e2] ta)
    (hs : starEach [e, e2] X.env = (false, eval e X.env) :: starEach [e2] X.env := by rfl) (hpl : (backTo pos (starEach [e2] X.env)).any (·.1) = false := by rfl) :
    PI X (.Tuple elts kk tpos) (.Call (.Name "zip" p) [e, e2] [] pos) (iZipT X.K ta) := by
  refine ⟨fun pins s σ H R I h => ?_⟩
  refine Call_ (ld_blt I hg hm PyProof.Rows.boot_zip (PyProof.Rows.callWith_type1 (thn (ha.run pos pins s σ H _ I h) fun us s1 ⟨vs, H1, I1, r1, z, b, ys, ev, hz0, hq2, q⟩ => ?_) hs hpl))
  subst ev
  cases r1 with
  | cons ra rt =>
    obtain ⟨t, rfl⟩ := ra
    cases rt with
    | cons rb rt2 =>
      cases rt2
      cases rb
      obtain ⟨its2, rv2, p2, _⟩ := I1.list hq2
      refine call_zt hz0 p2.isList fun h' hz hTI hTO h1 h2 hsz hk => pyIter_zipF hz ?_
      have I2 : Inv X pins σ H1 { s1 with heap := h' } := I1.kept (t' := s1.toks) hk
      refine ⟨s1.heap.objs.size + 4, [s1.heap.objs.size + 4, s1.heap.objs.size + 2, s1.heap.objs.size + 3, s1.heap.objs.size, s1.heap.objs.size + 1], _, _, H1, rfl, I2, turn_ST (apartT s1.heap.objs.size b p2.lt), ⟨_, _, _, .inl rfl, hz, hTI, hTO, rfl, h1, h2⟩, fun c hcm => ?_, q⟩
      have hle : s1.heap.objs.size ≤ c := by
        simp only [List.mem_cons, List.not_mem_nil, or_false] at hcm
        rcases hcm with rfl | rfl | rfl | rfl | rfl <;> first | exact Nat.le_refl _ | exact Nat.le_add_right _ _
      exact I1.fpOk hle (I1.hok.fresh hle)
theorem walk_ST {K : PySem.W.Frag} {z : Str} {b : Addr} {ys : List V} (hl : z.cps.size = ys.length) : Walk (ItST K z b) ys.length (fun H => SqL K H b ys) (fun i H v H' => ∃ (T : Addr) (c : Nat) (y : V), v = .ref T ∧ H T = none ∧ H' = upd H T (.tup [.str ⟨#[c]⟩, y]) ∧ z.cps[i]? = some c ∧ ys[i]? = some y) :=
  ⟨fun i H hi h => ⟨ys, _, _, h, Array.getElem?_eq_getElem (by omega), List.getElem?_eq_getElem hi⟩, fun H h => ⟨ys, h, Nat.le_of_eq hl⟩, fun i H v H' _ h ⟨T, c, y, e1, e2, e3, e4, e5⟩ => ⟨T, c, y, e1, e2, e3, e4, e5 ys h⟩⟩
end Hs
namespace Hs
open PySem PySem.Spec PyProof.Rows L2 Evl
section
variable {prog : Program} {w : World} {A : Around} {E : Value → Shared → Prop} {s : Shared}
/-- x, *ys = a list that is not empty: its first item, the rest as a new list -/
theorem star_lst {t : Addr} {its : Array Value} {x : Value} {ys : List Value} {Qd : List Value → Shared → Prop} (hT : s.heap.IsList t its) (hA : A.handled = none) (e : its.toList = x :: ys) (hz : its.size ≤ 16384)
    (k : ∀ (g : Heap) (tk : Tok) (d : Addr), (∀ b o, s.heap.get? b = some o → g.get? b = some o) → s.heap.get? d = none → g.get? d = some (seqObj "list" ys.toArray 0) → Qd [x, .ref d] { s with heap := g, toks := tk }) :
    wpAny (model prog w) A (unpackItems (.ref t) 2 (some 1)) Qd E s := by
  have nt : t ≠ s.heap.objs.size := let ⟨_, q, _⟩ := hT; Nat.ne_of_lt (Heap.lt_size q)
  have sz : its.size = ys.length + 1 := by
    rw [← Array.length_toList, e, List.length_cons]
  unfold unpackItems
  refine wpAny_bind ?_
  unfold notIterableAtAll
  refine wpAny_bind (wpAny_specialOf hT.typeIs slot_list_iter.lookup (wpAny_pure ?_))
  simp only [Bool.false_eq_true, if_false]
  refine wpAny_bind (wpAny_holding (wpAny_pyIter_list hT ?_))
  refine wpAny_bind (wpAny_holding (PySem.W.kun_draw nt 1 0 _ _ ?first (hT.push _) (by omega) fun g1 i1 b1 => ?_))
  case first => exact ⟨_, Heap.get?_push_size _ rfl, rfl, rfl⟩
  have e1 : (its.toList.drop 0).take 1 = [x] := by
    rw [e]
    rfl
  rw [e1]
  have T1 : g1.IsList t its := (hT.push _).extBut b1.extBut nt
  obtain ⟨oi, hoi⟩ : ∃ o, g1.get? s.heap.objs.size = some o := let ⟨o, q, _⟩ := i1; ⟨o, q⟩
  obtain ⟨ot, hot⟩ : ∃ o, g1.get? t = some o := let ⟨o, q, _⟩ := T1; ⟨o, q⟩
  have W := Walks.list (prog := prog) (w := w) (A := A.in1) hA s.heap.objs.size t nt its
  rw [if_neg (show ¬ ([x] : List Value).length < 1 from Nat.lt_irrefl 1)]
  refine wpAny_bind (wpAny_holding (PySem.W.kun_collect (s := { s with heap := g1 }) (T := "list_iterator") (.inr (.inr (.inl rfl))) W (fun _ _ st => st.1.typeIs) (k := 1) (by omega) ⟨i1, T1⟩ (Heap.lt_size hoi) (Heap.lt_size hot) (fun g2 tk kp => ?_) (by rw [sizeLine_eq]; omega)))
  have e2 : its.toList.drop 1 = ys := by rw [e] <;> rfl
  rw [e2]
  have hlt : ¬ ys.length < 2 - 1 - 1 := Nat.not_lt_zero _
  rw [if_neg hlt]
  have e3 : ys.take (ys.length - (2 - 1 - 1)) = ys := List.take_of_length_le (Nat.le_refl _)
  have e4 : ys.drop (ys.length - (2 - 1 - 1)) = [] := List.drop_eq_nil_of_le (Nat.le_refl _)
  rw [e3, e4]
  have old : ∀ b o, s.heap.get? b = some o → g2.get? b = some o := fun b o hb => by
    have n1 : b ≠ s.heap.objs.size := Nat.ne_of_lt (Heap.lt_size hb)
    exact kp b o n1 (b1.extBut b o n1 (Heap.get?_push_of_some _ hb))
  refine wpAny_bind (wpAny_newList ?_ ?_)
  · refine wpAny_pure (k _ tk g2.objs.size (fun b o hb => Heap.get?_push_of_some _ (old b o hb)) ?_ (Heap.get?_push_size _ rfl))
    cases q : s.heap.get? g2.objs.size with
    | none => rfl
    | some o => exact absurd (Heap.lt_size (old _ _ q)) (Nat.lt_irrefl _)
  · have z : ys.length ≤ sizeLine := by
      rw [sizeLine_eq]
      omega
    exact z
end
/-- x, *ys = a list -/
def gStarL (K : PySem.W.Frag) (g1 g2 : TG) : TG := fun v σ H Q => ∃ a x xs, v = .ref a ∧ SqL K H a (x :: xs) ∧ xs.length ≤ 16000 ∧ ∀ d, H d = none → g1 x σ (upd H d (.lst xs)) fun σ1 H1 => g2 (.ref d) σ1 H1 Q
section
variable {X : Cx}
theorem pg_starL {e1 e2 : Expr} {p p2 : Pos} {k : Nat} {g1 g2 : TG} (hc : X.calm = true) (h1 : PG X e1 g1) (h2 : PG X e2 g2) (hs : assignEach [e1, .Starred e2 p2] X.env = [(false, assign e1 X.env), (true, assign e2 X.env)] := by rfl) : PG X (.Tuple [e1, .Starred e2 p2] k p) (gStarL X.K g1 g2) := by
  refine ⟨fun pins s σ H v u Q I r hw => ?_⟩
  obtain ⟨a, x, xs, rfl, hq, hl, hw⟩ := hw
  cases r
  obtain ⟨its, rv, ht, hz⟩ := I.list hq
  rw [PyProof.Rows.assign_Tuple]
  refine wpAny_bind (wpAny_standAt ?_)
  unfold unpack
  rw [hs]
  cases rv with
  | @cons _ u1 _ us r1 rs =>
    have lz : us.length ≤ 16000 := by rw [← rs.length]; exact hl
    refine wpAny_bind (wpAny_holding (star_lst (x := u1) (ys := us) ht.isList (I.ok.hd hc) rfl (by rw [List.size_toArray, List.length_cons]; omega) fun g tk d old hd0 hd => ?_))
    have hn : H d = none := I.hok.gone hd0
    have I1 : Inv X pins σ (upd H d (.lst xs)) { s with heap := g, toks := tk } := I.laidN (t' := tk) old hd0 hn ⟨by rw [sizeLine_eq]; omega, us, 0, rs, hd⟩
    refine assignInOrder_cons (wpAny_mono (h1.run pins _ σ _ x u1 _ I1 r1 (hw d hn)) (fun _ s2 h2' => ?_) fun _ _ z => z)
    obtain ⟨σ2, H2, I2, q2⟩ := h2'
    refine assignInOrder_cons (wpAny_mono (h2.run pins s2 σ2 H2 (.ref d) (.ref d) Q I2 rfl q2) (fun _ s3 h3 => ?_) fun _ _ z => z)
    exact assignInOrder_nil h3
end
end Hs
namespace Hs
open PySem PySem.Spec PyProof.Rows L2 Evl
/-! ### d.get(z), d a dict of the written part with texts as keys -/
def tKGet (K : PySem.W.Frag) (d : Addr) (td ty : TE) : TE := fun σ H Q => td σ H fun x H1 => x = .ref d ∧ ty σ H1 fun y H2 => ∃ (z : Str) (r : Option Value) (v0 : V), y = .str z ∧ PySem.W.nsIn K d z = some r ∧ RelV v0 (r.getD .none) ∧ Q v0 H2
theorem pe_kget {X : Cx} {d : Addr} {es : Array DictEntry} {n : Nat} {o e : Expr} {apos cpos : Pos} {td ty : TE} (D : KDict X.K X.w d es n) (ho : PE X o td) (he : PE X e ty) (m : M1 X o "get" apos e cpos) : PE X (.Call (.Attribute o "get" apos) [e] [] cpos) (tKGet X.K d td ty) := by
  refine ⟨fun pins s σ H Q I h => ?_⟩
  refine wpAny_Call_method m.base m.few m.line PySem.F.plainAttrs_dict PySem.F.slot_dict_get PySem.F.type_dict_get (thn (ho.run pins s σ H _ I h) fun u s1 ⟨x, H1, I1, rx, ex, q1⟩ => ?_)
  subst ex
  obtain rfl : u = Value.ref d := rx
  have hm := PySem.W.mapOf_K (prog := X.prog) (w := X.w) I1.kIn D.at_ D.lit
  refine ⟨hm.typeIs, hm.noDict, ?_⟩
  rw [m.trees]
  refine Calls.callWith_builtin rfl (Calls.evalArgs_plain (Calls.spliced_cons (thn (he.run pins s1 σ H1 _ I1 q1) fun iv s2 ⟨y, H2, I2, ry, z, r, v0, ey, ez, rv, q2⟩ => Calls.spliced_nil ?_)))
  subst ey
  obtain ⟨t, rfl⟩ := ry
  have hm2 := PySem.W.mapOf_K (prog := X.prog) (w := X.w) I2.kIn D.at_ D.lit
  refine call_meetsIn PySem.F.slot_dict_get hm2.typeIs PySem.F.entry_dict_get (PySem.F.args_dict_get_2 _ _) (meets_dict_get (PySem.strKind X.prog X.w) d (PySem.strKind_is X.prog X.w z t) D.low) ⟨_, hm2, ?_⟩
  rw [PySem.W.find_K D.at_ ez]
  exact ⟨v0, H2, I2.tok _, rv, q2⟩
end Hs
namespace Hs
open PySem PySem.Spec PyProof.Rows L2 Evl
/-! ### [e for c, y in zip(text, list)] -/
theorem el_lcZT {K : PySem.W.Frag} {σ : L2.St} {H : Hp} {ta tb te : TE} {fm : Str} {b : Addr} {ws : List V} {i j : Nat} {vs : List Nat} (v : Nat → V) (ha : Ev ta σ H (.str fm)) (hb : Ev tb σ H (.ref b)) (hf : fm.cps.all (· < 128) = true) (hq : SqL K H b ws) (hl : fm.cps.size = ws.length) (hz : ws.length ≤ 40000)
    (hw : ∀ x y, wipe (((wipe σ vs).set i (some x)).set j (some y)) vs = wipe σ vs)
    (he : ∀ (k c : Nat) (y : V) H1, Ex H H1 → fm.cps[k]? = some c → ws[k]? = some y → Ev te (((wipe σ vs).set i (some (.str ⟨#[c]⟩))).set j (some y)) H1 (v k)) :
    EvL (tLc (iZipT K (tCons ta (tCons tb tNil))) (gTup K 2 (gCons (gName i) (gCons (gName j) gNil))) tYes te vs) σ H (given ws.length (fun _ => true) v) :=
  fun H0 e Q q => ha H0 e _ fun H1 e1 => hb H1 (e.trans e1) _ fun H2 e2 => ⟨fm, b, ws, rfl, hf, ex_l ((e.trans e1).trans e2) hq, fun Dl hD =>
    lc_it (walk_ST hl) (Cw H2 (fun _ => true) v Dl) ⟨hD, Ex.new hD, upd_same⟩ (fun _ H' _ p => ex_l (((e.trans e1).trans e2).trans p.2.1) hq) (fun k x H3 H4 hk p y => by
      obtain ⟨T, c, y, rfl, hT, rfl, hc, hy⟩ := y
      have eT := Ex.new (o := .tup [.str ⟨#[c]⟩, y]) hT
      have p' : Cw H2 (fun _ => true) v Dl k (upd H3 T (.tup [.str ⟨#[c]⟩, y])) := ⟨p.1, p.2.1.trans eT, eT _ _ p.2.2⟩
      refine ⟨T, _, rfl, st_of upd_same, rfl, ?_⟩
      exact ⟨_, _, rfl, _, _, rfl, rfl, hw _ _, cw_turn p' (by omega) (fun H1 _ Q q => q H1 (Ex.refl H1)) (fun _ => he k c y H2 ((e.trans e1).trans e2) hc hy)⟩)
      (fun H' p => q Dl H' (fresh_back (e1.trans e2) p.1) ((e1.trans e2).trans p.2.1) p.2.2)⟩
end Hs
namespace Hs
open PySem PySem.Spec PyProof.Rows L2 Evl
/-! ### a row read back -/
def RdOk (c : Nat) (t : Str) (v : V) : Prop := (c = 110 ∧ ∃ n : Int, t = numS n ∧ v = .int n ∧ n.natAbs < 10 ^ 9) ∨ (c ≠ 110 ∧ t ≠ "" ∧ v = .str (if c = 115 ∧ t = "-" then "" else t))
def spReadRow (K : PySem.W.Frag) (dF : Addr) : Sp := fun vs H Q _ => ∃ row : Str, vs = [.str row] ∧ row.length ≤ 90000 ∧
  ((∃ (wd : Str) (ws : List Str) (fm : Str) (xs : List V), Txt.split row " " = wd :: ws ∧ wd ≠ "unsure" ∧ ((wd = "many" ∧ fm = "n" ∧ ∃ k : Nat, xs = [.int (k : Int)]) ∨ (wd ≠ "many" ∧ ∃ tk, PySem.W.nsIn K dF wd = some (some (.str fm tk)))) ∧
      fm.cps.all (· < 128) = true ∧ fm.cps.size = ws.length ∧ xs.length = ws.length ∧ ws.length ≤ 50 ∧ (∀ (i c : Nat) (t : Str) (v : V), fm.cps[i]? = some c → ws[i]? = some t → xs[i]? = some v → RdOk c t v) ∧
      ∀ (p : Addr) (H' : Hp), H p = none → Ex H H' → SqT K H' p (.str wd :: xs) → Q (.ref p) H') ∨
   (∃ rows : List (List Int), Txt.split row " " = ("unsure" : Str) :: menuW rows ∧ rows ≠ [] ∧ (WD.unsure rows).ok ∧ ∀ (p : Addr) (H' : Hp), H p = none → Ex H H' → DeedV K H' p (.unsure rows) → Q (.ref p) H'))
theorem RdOk.flat {c : Nat} {t : Str} {v : V} (h : RdOk c t v) : flatV v = true ∧ eqV v .non = false := by
  rcases h with ⟨_, n, _, rfl, _⟩ | ⟨_, _, rfl⟩ <;> exact ⟨rfl, rfl⟩
theorem et_nonS {σ : L2.St} {H : Hp} {i : Nat} {x : Str} (h : σ[i]? = some (some (.str x))) : EvT (tTest (tOp (fun x y H Q => y = V.non ∧ Q (V.bl (decide (x = V.non))) H) (tVar i) (tC V.non))) σ H false :=
  et_is (et_test (ev_op (ev_var h) ev_c fun H6 _ _ q6 => ⟨rfl, q6 H6 (Ex.refl _)⟩)) (decide_eq_false fun z => by cases z)
section
variable {P : Program} {w : World} {K : PySem.W.Frag} {mg : Str → Option Value} {base : Heap} {f dF : Addr} {fd : FuncData} {esF : Array DictEntry} {nF : Nat}
abbrev sReadRow : Stmt := top 14
theorem scReadRow : FnScope ["row", "word", "words", "choices", "form", "things", "letter", "thing"] ["row"] (defScope sReadRow) := ⟨rfl, rfl, rfl, by decide +kernel, rfl, by decide +kernel, by decide +kernel⟩
theorem ok_readRow (F : FnP K "read_row" sReadRow f fd) (DF : KDict K w dF esF nF) (g_FORMS : mg "FORMS" = some (.ref dF) ∧ RelV (.ref dF) (.ref dF)) (O_read_choices : Own P w K mg base 3 "read_choices" ["words"] (spReadCh K)) (O_read_thing : Own P w K mg base 2 "read_thing" ["letter", "word"] spReadTh) (g_len : mg "len" = none) (g_zip : mg "zip" = none) : FnOk P w K mg base CX0 4 f fd ["row"] (spReadRow K dF) := by
  have nd := scReadRow.nd
  refine F.ok scReadRow (fun vs H Q E h => ?_) (fun cdv A outer s H vs Q E hr h => ⟨_, PSs.nox (pss_cons (ps_asg (pe_split (pv 0) pe_str) (Hs.pg_starL rfl (pg_name (i := 1) nd rfl (.inl rfl)) (pg_name (i := 2) nd rfl (.inl rfl))))
  (pss_cons (ps_if (pt_cmpR op_eq (pv 1) pe_str (nomark _)) (pss_cons (ps_set (i := 3) nd rfl (.inl rfl) (Hs.pe_own O_read_choices hr (by first | decide | omega) (by rfl) (pa_cons (pv 2) pa_nil)))
  (pss_one (ps_ret (pe_ifExp (pt_cmpR op_isN (pv 3) pe_non (nomark _)) pe_non (pe_tup (pa_cons (pv 1) (pa_cons (pv 3) pa_nil))))))) pss_nil)
  (pss_cons (ps_set (i := 4) nd rfl (.inl rfl) (pe_ifExp (pt_cmpR op_eq (pv 1) pe_str (nomark _)) pe_str (Hs.pe_kget DF (pe_glob (by rfl) g_FORMS.1 g_FORMS.2) (pv 1) ⟨by rfl, by rfl, by rfl, by rfl⟩)))
  (pss_cons (ps_if (PW.pt (pw_or (pt_cmpR op_isN (pv 4) pe_non (nomark _)) (pw_or1 (pt_cmpR op_ne (pe_callB (r := Evl.rLenS K) call_len_seq (by rfl) g_len PySem.boot_len (pa_cons (pv 2) pa_nil)) (pe_callB call_len_str (by rfl) g_len PySem.boot_len (pa_cons (pv 4) pa_nil)) (nomark _))))) (pss_one (ps_ret pe_non)) pss_nil)
  (pss_cons (ps_setLc (i := 5) (own := [("letter", 6), ("thing", 7)]) (g := gTup K 2 (gCons (gName 6) (gCons (gName 7) gNil))) rfl nd rfl rfl (sw_true rfl rfl rfl (by decide +kernel)) (Hs.pi_zipT (by rfl) g_zip (pa_cons (pv 4) (pa_cons (pv 2) pa_nil))) (blkOk_by (N := ["row", "word", "words", "choices", "form", "things", "letter", "thing"]) (sc := defScope (Hs.top 14)) (by decide +kernel)) (fun _ _ _ _ _ => (pg_tup rfl (pgs_cons (pg_name (i := 6) nd rfl (Or.inl rfl)) (pgs_cons (pg_name (i := 7) nd rfl (Or.inl rfl)) pgs_nil)))) (fun _ _ _ _ _ => pts_nil) (fun _ _ _ _ _ => (Hs.pe_own O_read_thing hr (by first | decide | omega) (by rfl) (pa_cons (pv 6) (pa_cons (pv 7) pa_nil)))))
  (pss_cons (ps_if (PW.pt (pw_or (pt_cmpR op_in_seq pe_non (pv 5) (by rfl)) (pw_or1 (PW.pt (pw_and (pt_cmpR op_eq (pv 1) pe_str (nomark _)) (pw_and1 (pt_cmpR op_lt (pe_ix (r := rIxL K) ix_list (pv 5) pe_int (fun _ _ => rfl)) pe_int (nomark _)))))))) (pss_one (ps_ret pe_non)) pss_nil)
  (pss_one (ps_ret (pe_tup (pa_cons (pv 1) (StX.pa_star (pv 5) pa_nil))))))))))), ?_⟩)
  · obtain ⟨a, rfl, _⟩ := h
    rfl
  · obtain ⟨row, rfl, lrow, h⟩ := h
    refine ⟨_, rfl, ⟨_, rfl⟩, row, " ", rfl, rfl, by decide +kernel, sz_of (by omega), fun p0 hp0 => ?_⟩
    rcases h with ⟨wd, ws, fm, xs, hs, nu, hf, ha, lf, lx, lw, hv, k⟩ | ⟨rows, hs, ne, ok, k⟩
    · rw [hs]
      have e0 := Ex.new (o := .lst ((wd :: ws).map V.str)) hp0
      refine ⟨p0, .str wd, ws.map V.str, rfl, sq_of upd_same, by rw [List.length_map]; omega, fun d hd => ?_⟩
      have e1 := e0.trans (Ex.new (o := .lst (ws.map V.str)) hd)
      dsimp only [gName, List.set]
      generalize hH1 : upd (upd H p0 _) d _ = H1
      have hd1 : H1 d = some (.lst (ws.map V.str)) := by
        rw [← hH1]
        exact upd_same
      rw [hH1] at e1
      refine q_when (b := false) (et_is (et_test (ev_op (ev_var rfl) ev_c (rv_eq rfl))) (by simp [nu])) (fun ht => Bool.noConfusion ht) (fun _ H2 e2 => ?_)
      refine q_asg (v := .str fm) (ev_if (b := decide (wd = "many")) (et_is (et_test (ev_op (ev_var (v := .str wd) rfl) ev_c (rv_eq rfl))) (by simp)) (fun hm => ?_) (fun hm => ?_)) (fun H3 e3 => ?_)
      · rcases hf with ⟨_, rfl, _⟩ | ⟨hn, _⟩
        · exact ev_c
        · exact absurd (of_decide_eq_true hm) hn
      · rcases hf with ⟨hy, _⟩ | ⟨hn, tk, ht⟩
        · exact absurd hy (of_decide_eq_false hm)
        · exact fun H3 e3 Q3 q3 => ⟨rfl, _, rfl, wd, _, .str fm, rfl, ht, ⟨tk, rfl⟩, q3 H3 (Ex.refl _)⟩
      have e13 := (e1.trans e2).trans e3
      have hd3 := (e2.trans e3) _ _ hd1
      have lfm : fm.length = ws.length := lf
      refine q_when (b := false) (et_is (et_or (a := false) (b := false) (et_nonS rfl) fun _ => et_is (et_test (ev_op (ev_len (K := K) (ev_var (v := .ref d) rfl) (sq_of hd3)) (fun H6 e6 Q6 q6 => ⟨_, rfl, fm, rfl, sz_of (by omega), q6 H6 (Ex.refl _)⟩) (rv_ne rfl))) (by rw [List.length_map, lfm] <;> simp)) rfl) (fun ht => Bool.noConfusion ht) (fun _ H4 e4 => ?_)
      have hd4 := e4 _ _ hd3
      have key : EvL (tLc (iZipT K (tCons (tVar 4) (tCons (tVar 2) tNil))) (gTup K 2 (gCons (gName 6) (gCons (gName 7) gNil))) tYes (tCall spReadTh [] E0 (tCons (tVar 6) (tCons (tVar 7) tNil))) [6, 7]) [some (.str row), some (.str wd), some (.ref d), none, some (.str fm), none, none, none] H4 xs := by
        have z := el_lcZT (K := K) (ta := tVar 4) (tb := tVar 2) (te := tCall spReadTh [] E0 (tCons (tVar 6) (tCons (tVar 7) tNil))) (i := 6) (j := 7) (vs := [6, 7]) (σ := [some (.str row), some (.str wd), some (.ref d), none, some (.str fm), none, none, none]) (fun k => xs.getD k .non) (ev_var rfl) (ev_var rfl) ha (sq_of hd4) (by rw [List.length_map, lf]) (by rw [List.length_map]; omega) (fun _ _ => rfl) (fun i c y H5 e5 hc hy => by
          rw [List.getElem?_map] at hy
          obtain ⟨t, ht, rfl⟩ := Option.map_eq_some_iff.mp hy
          have hi := (List.getElem?_eq_some_iff.mp ht).1
          obtain ⟨v, hvi⟩ : ∃ v, xs[i]? = some v := ⟨_, List.getElem?_eq_getElem (by omega)⟩
          have eg : xs.getD i .non = v := by rw [List.getD_eq_getElem?_getD, hvi] <;> rfl
          rw [eg]
          refine ev_call (ea_cons (ev_var rfl) (ea_cons (ev_var rfl) ea_nil)) fun H6 e6 Q6 q6 E6 => ?_
          rcases hv i c t v hc ht hvi with ⟨rfl, n, rfl, rfl, hn⟩ | ⟨nc, nt, rfl⟩
          · exact .inl ⟨n, rfl, hn, q6⟩
          · refine .inr ⟨⟨#[c]⟩, t, rfl, fun z => nc ?_, nt, ?_⟩
            · have z2 : (⟨#[c]⟩ : Str).cps.toList = ("n" : Str).cps.toList := congrArg (fun q : Str => q.cps.toList) z
              have z3 : ("n" : Str).cps.toList = [110] := by decide +kernel
              rw [z3] at z2
              exact List.head_eq_of_cons_eq z2
            · have ec : ((⟨#[c]⟩ : Str) = "s") ↔ c = 115 := by
                have z3 : ("s" : Str) = ⟨#[115]⟩ := by decide +kernel
                rw [z3]
                constructor
                · intro z
                  have z2 : (⟨#[c]⟩ : Str).cps.toList = (⟨#[115]⟩ : Str).cps.toList := congrArg (fun q : Str => q.cps.toList) z
                  exact List.head_eq_of_cons_eq z2
                · rintro rfl
                  rfl
              simp only [ec]
              exact q6)
        have lz : (ws.map V.str).length = xs.length := by rw [List.length_map, lx]
        rw [lz] at z
        have z2 := given_mapA (xs := xs) (g := id) (d := .non)
        rw [List.map_id] at z2
        have z3 : (given xs.length (fun _ => true) fun k => xs.getD k .non) = xs := z2
        rw [z3] at z
        exact z
      refine q_asgL key fun D H5 nD e5 hD => ?_
      have fl : ∀ v ∈ xs, flatV v = true ∧ eqV v .non = false := fun v hm => by
        obtain ⟨i, hi⟩ := List.mem_iff_getElem?.mp hm
        have hlt := (List.getElem?_eq_some_iff.mp hi).1
        exact (hv i fm.cps[i] ws[i] v (Array.getElem?_eq_getElem (by omega)) (List.getElem?_eq_getElem (by omega)) hi).flat
      have nin : inV .non xs = false := by
        unfold inV
        rw [List.any_eq_false]
        intro v hm
        rw [(fl v hm).2]
        exact Bool.false_ne_true
      refine q_when (b := false) (et_is (et_or (a := false) (b := false) (et_is (et_test (ev_op ev_c (ev_var rfl) (rv_isL (K := K) (sq_of hD) rfl (List.all_eq_true.mpr fun v hm => (fl v hm).1)))) nin) fun _ => et_is (et_and (a := decide (wd = "many")) (b := false) (et_is (et_test (ev_op (ev_var (v := .str wd) rfl) ev_c (rv_eq rfl))) (by simp)) fun hm => ?_) (by simp)) rfl) (fun ht => Bool.noConfusion ht) (fun _ H6 e6 => ?_)
      · rcases hf with ⟨_, _, kk, rfl⟩ | ⟨hn, _⟩
        · exact et_is (et_test (ev_op (ev_op (ev_var rfl) ev_c (rv_ixL (K := K) (v := .int (kk : Int)) (sq_of hD) rfl)) ev_c rv_I0)) (decide_eq_false (by omega))
        · exact absurd (of_decide_eq_true hm) hn
      · have e16 := ((e13.trans e4).trans e5).trans e6
        refine ⟨_, rfl, _, rfl, D, xs, rfl, .inr (sq_of (e6 _ _ hD)), ?_⟩
        refine ⟨sz_of (by rw [List.length_cons, List.append_nil]; omega), fun q hq => ?_⟩
        rw [List.append_nil] at *
        exact k q _ (fresh_back e16 hq) (e16.trans (Ex.new hq)) (st_of upd_same)
    · rw [hs]
      obtain ⟨lr, hr5⟩ := ok
      have e0 := Ex.new (o := .lst ((("unsure" : Str) :: menuW rows).map V.str)) hp0
      refine ⟨p0, .str "unsure", (menuW rows).map V.str, rfl, sq_of upd_same, ?_, fun d hd => ?_⟩
      · have z := inter_len (c := ("/" : Str)) (rs := rows.map fun r => r.map numS) (fun e => ne (List.map_eq_nil_iff.mp e)) fun z hz => by
          obtain ⟨y, hy, rfl⟩ := List.mem_map.mp hz
          rw [List.length_map]
          exact (hr5 y hy).1
        rw [List.length_map] at z ⊢
        have z2 : (menuW rows).length + 1 = 6 * rows.length := z
        omega
      have e1 := e0.trans (Ex.new (o := .lst ((menuW rows).map V.str)) hd)
      dsimp only [gName, List.set]
      generalize hH1 : upd (upd H p0 _) d _ = H1
      have hd1 : H1 d = some (.lst ((menuW rows).map V.str)) := by
        rw [← hH1]
        exact upd_same
      rw [hH1] at e1
      refine q_when (b := true) (et_is (et_test (ev_op (ev_var rfl) ev_c (rv_eq rfl))) (by simp)) (fun _ H2 e2 => ?_) (fun ht => Bool.noConfusion ht)
      refine ⟨_, rfl, d, rows, rfl, sq_of (e2 _ _ hd1), ne, lr, hr5, fun p H3 np e3 hp => ?_⟩
      dsimp only [gName, List.set]
      obtain ⟨ps, h1, h2, h3⟩ := hp
      refine et_nonR rfl H3 (Ex.refl _) _ fun H4 e4 => ite_F rfl ⟨_, rfl, _, rfl, sz_of (by simp), fun t ht => ?_⟩
      have et := Ex.new (o := .tup [V.str "unsure", .ref p]) ht
      have e14 := ((e1.trans e2).trans e3).trans e4
      exact k t _ (fresh_back e14 ht) (e14.trans et) ⟨p, ps, st_of upd_same, ex_t (e4.trans et) h1, h2, fun i q r hq hr => ex_t (e4.trans et) (h3 i q r hq hr)⟩
end
end Hs
namespace Hs
open PySem PySem.Spec PyProof.Rows L2 Evl
/-! ### a deed as rows, and as a text -/
inductive DD
  | one (d : WD)
  | many (ds : List WD)
def manyT (n : Nat) : Str := Txt.join " " ["many", numS n]
def DD.rows : DD → List Str
  | .one d => [d.text]
  | .many ds => manyT ds.length :: ds.map WD.text
def DD.text (d : DD) : Str := Txt.join "\n" d.rows
def DD.ok : DD → Prop
  | .one d => d.ok
  | .many ds => ds.length ≤ 20 ∧ ∀ d ∈ ds, d.ok
def DDV (K : PySem.W.Frag) (H : Hp) (a : Addr) : DD → Prop
  | .one d => DeedV K H a d
  | .many ds => ∃ (c : Addr) (ps : List Addr), SqT K H a [.str "many", .ref c] ∧ SqT K H c (ps.map V.ref) ∧ ps.length = ds.length ∧ ∀ (i : Nat) (p : Addr) (d : WD), ps[i]? = some p → ds[i]? = some d → DeedV K H p d
theorem DeedV.ext {K : PySem.W.Frag} {H H' : Hp} {a : Addr} {d : WD} (e : Ex H H') (h : DeedV K H a d) : DeedV K H' a d := by
  cases d with
  | plain w xs => exact ex_t e h
  | unsure rows =>
    obtain ⟨c, ps, h1, h2, h3, h4⟩ := h
    exact ⟨c, ps, ex_t e h1, ex_t e h2, h3, fun i p r hp hr => ex_t e (h4 i p r hp hr)⟩
theorem DDV.ext {K : PySem.W.Frag} {H H' : Hp} {a : Addr} {d : DD} (e : Ex H H') (h : DDV K H a d) : DDV K H' a d := by
  cases d with
  | one d => exact DeedV.ext e h
  | many ds =>
    obtain ⟨c, ps, h1, h2, h3, h4⟩ := h
    exact ⟨c, ps, ex_t e h1, ex_t e h2, h3, fun i p r hp hr => DeedV.ext e (h4 i p r hp hr)⟩
theorem DeedV.head {K : PySem.W.Frag} {H : Hp} {a : Addr} {d : WD} (h : DeedV K H a d) (ok : d.ok) : ∃ (w : Str) (xs : List V), SqT K H a (.str w :: xs) ∧ w ≠ "many" := by
  cases d with
  | plain w xs => exact ⟨w, xs, h, ok.1⟩
  | unsure rows =>
    obtain ⟨c, ps, h1, _⟩ := h
    exact ⟨_, _, h1, by decide +kernel⟩
theorem text_len {d : WD} (ok : d.ok) : d.text.length ≤ 1300 := by
  cases d with
  | plain w xs =>
    have z := join_len (y := " ") (k := 20) (ps := (V.str w :: xs).map thS) fun p hp => by
      obtain ⟨x, hx, rfl⟩ := List.mem_map.mp hp
      exact thS_len (ok.2.2.1 x hx)
    have h1 : (" " : Str).length = 1 := by decide +kernel
    rw [List.length_map, List.length_cons, h1] at z
    have hl := ok.2.2.2
    show (Txt.join " " ((V.str w :: xs).map thS)).length ≤ 1300
    omega
  | unsure rows =>
    have z := join_len (y := " / ") (k := 55) (ps := rows.map rowS) fun p hp => by
      obtain ⟨x, hx, rfl⟩ := List.mem_map.mp hp
      exact rowS_len (ok.2 x hx).1 (ok.2 x hx).2
    have h3 : (" / " : Str).length = 3 := by decide +kernel
    have hu : ("unsure" ++ " " : Str).length = 7 := by decide +kernel
    rw [List.length_map, h3] at z
    have hl := ok.1
    show ("unsure" ++ " " ++ Txt.join " / " (rows.map rowS) : Str).length ≤ 1300
    rw [TL.len_tl, TL.tl_append, List.length_append, ← TL.len_tl, ← TL.len_tl, hu]
    omega
theorem manyT_len {n : Nat} (h : n ≤ 50) : (manyT n).length ≤ 22 := by
  have h1 : (" " : Str).length = 1 := by decide +kernel
  have z := join_len (y := " ") (k := 10) (ps := [("many" : Str), numS n]) fun p hp => by
    simp only [List.mem_cons, List.not_mem_nil, or_false] at hp
    rcases hp with rfl | rfl
    · decide +kernel
    · exact numS_len (by omega)
  rw [h1] at z
  exact z
theorem rows_len {d : DD} (ok : d.ok) : ∀ r ∈ d.rows, r.length ≤ 1300 := by
  cases d with
  | one d =>
    intro r hr
    rw [List.mem_singleton.mp hr]
    exact text_len ok
  | many ds =>
    intro r hr
    rcases List.mem_cons.mp hr with rfl | hr
    · exact Nat.le_trans (manyT_len (by have := ok.1; omega)) (by decide)
    · obtain ⟨d, hd, rfl⟩ := List.mem_map.mp hr
      exact text_len (ok.2 d hd)
theorem rows_cnt {d : DD} (ok : d.ok) : d.rows.length ≤ 21 := by
  cases d with
  | one d => exact Nat.le_trans (Nat.le_refl 1) (by decide)
  | many ds =>
    show (manyT ds.length :: ds.map WD.text).length ≤ 21
    rw [List.length_cons, List.length_map]
    have := ok.1
    omega
theorem sum_le {k : Nat} : ∀ ys : List Str, (∀ p ∈ ys, p.length ≤ k) → (ys.map (·.length)).sum ≤ ys.length * k
  | [], _ => Nat.zero_le _
  | y :: r, h => by
    have g1 := h y List.mem_cons_self
    have g2 := sum_le (k := k) r fun z hz => h z (List.mem_cons_of_mem _ hz)
    rw [List.map_cons, List.sum_cons, List.length_cons, Nat.add_mul]
    omega
theorem el_catL {ta tb : TE} {σ : L2.St} {H : Hp} {xs ys : List V} (h1 : EvL ta σ H xs) (h2 : EvL tb σ H ys) (hz : xs.length + ys.length ≤ 100000) : EvL (tOp rCat ta tb) σ H (xs ++ ys) := fun H1 e Q q =>
  h1 H1 e _ fun p1 H2 n2 e2 hp1 => h2 H2 (e.trans e2) _ fun p2 H3 n3 e3 hp2 => ⟨p1, p2, _, _, rfl, rfl, e3 _ _ hp1, hp2, sz_of hz, fun p hp => q p _ (fresh_back (e2.trans e3) hp) ((e2.trans e3).trans (Ex.new hp)) upd_same⟩
def spDRows (K : PySem.W.Frag) : Sp := fun vs H Q _ => ∃ (a : Addr) (d : DD), vs = [.ref a] ∧ DDV K H a d ∧ d.ok ∧ RetL (d.rows.map V.str) H Q
def spDText (K : PySem.W.Frag) : Sp := fun vs H Q _ => ∃ (a : Addr) (d : DD), vs = [.ref a] ∧ DDV K H a d ∧ d.ok ∧ RetV (.str d.text) H Q
section
variable {P : Program} {w : World} {K : PySem.W.Frag} {mg : Str → Option Value} {base : Heap} {f : Addr} {fd : FuncData}
abbrev sDRows : Stmt := top 8
theorem scDRows : FnScope ["deed", "within"] ["deed"] (defScope sDRows) := ⟨rfl, rfl, rfl, by decide +kernel, rfl, by decide +kernel, by decide +kernel⟩
theorem ok_dRows (F : FnP K "deed_rows" sDRows f fd) (O_row_text : Own P w K mg base 3 "row_text" ["deed"] (spRowT K)) : FnOk P w K mg base CX0 4 f fd ["deed"] (spDRows K) := by
  have nd := scDRows.nd
  refine F.ok scDRows (fun vs H Q E h => ?_) (fun cdv A outer s H vs Q E hr h => ⟨_, PSs.nox (pss_cons (ps_if (pt_cmpR op_eq (pe_ix (r := rIxT K) ix_tup (pv 0) pe_int (fun _ _ => rfl)) pe_str (nomark _)) (pss_one (ps_ret (pe_op op_cat (pe_lst (pa_cons (Hs.pe_own O_row_text hr (by first | decide | omega) (by rfl) (pa_cons (pv 0) pa_nil)) pa_nil)) (pe_lc (own := [("within", 1)]) rfl nd (pi_tup (pe_ix (r := rIxT K) ix_tup (pv 0) pe_int (fun _ _ => rfl))) (blkOk_by (N := ["deed", "within"]) (sc := defScope (Hs.top 8)) (by decide +kernel)) (fun _ _ _ _ _ => (pg_name (i := 1) nd rfl (Or.inl rfl))) (fun _ _ _ _ _ => pts_nil) (fun _ _ _ _ _ => (Hs.pe_own O_row_text hr (by first | decide | omega) (by rfl) (pa_cons (pv 1) pa_nil))))))) pss_nil)
  (pss_one (ps_ret (pe_lst (pa_cons (Hs.pe_own O_row_text hr (by first | decide | omega) (by rfl) (pa_cons (pv 0) pa_nil)) pa_nil))))), ?_⟩)
  · obtain ⟨a, d, rfl, _⟩ := h
    rfl
  · obtain ⟨a, d, rfl, hd, ok, k⟩ := h
    cases d with
    | one d =>
      obtain ⟨wd, xs, hs, nm⟩ := DeedV.head hd ok
      refine q_when (b := false) (et_is (et_test (ev_op (ev_op (ev_var rfl) ev_c (rv_ixT (v := .str wd) hs (atI_nat (xs := .str wd :: xs) (j := 0) rfl))) ev_c (rv_eq rfl))) (by simp [nm])) (fun ht => Bool.noConfusion ht) (fun _ H1 e1 => ?_)
      have c0 : Ev (tCall (spRowT K) [] E0 (tCons (tVar 0) tNil)) [some (.ref a), none] H1 (.str d.text) := ev_call (ea_cons (ev_var rfl) ea_nil) fun H2 e2 Q2 q2 E2 => ⟨a, rfl, .inl ⟨d, DeedV.ext (e1.trans e2) hd, ok, q2⟩⟩
      exact s_retL (el_lst (ea_cons c0 ea_nil) (by simp)) fun p H2 np e2 h2 => k p H2 (fresh_back e1 np) (e1.trans e2) h2
    | many ds =>
      obtain ⟨c, ps, h1, h2, h3, h4⟩ := hd
      obtain ⟨ld, hok⟩ := ok
      refine q_when (b := true) (et_is (et_test (ev_op (ev_op (ev_var rfl) ev_c (rv_ixT (v := .str "many") h1 rfl)) ev_c (rv_eq rfl))) (by simp)) (fun _ H1 e1 => ?_) (fun ht => Bool.noConfusion ht)
      have lc : (ps.map V.ref).length = ds.length := by rw [List.length_map, h3]
      have key : EvL (tLc (iTup K (tOp (rIxT K) (tVar 0) (tC (.int 1)))) (gName 1) tYes (tCall (spRowT K) [] E0 (tCons (tVar 1) tNil)) [1]) [some (.ref a), none] H1 ((ds.map WD.text).map V.str) := by
        have z := el_lcTu (K := K) (tl := tOp (rIxT K) (tVar 0) (tC (.int 1))) (te := tCall (spRowT K) [] E0 (tCons (tVar 1) tNil)) (j := 1) (vs := [1]) (σ := [some (.ref a), none]) (xs := ps.map V.ref) (a := c) (fun i => V.str (ds.getD i (.plain "" [])).text) (ev_op (ev_var rfl) ev_c (rv_ixT (v := .ref c) (ex_t e1 h1) rfl)) (ex_t e1 h2) (by omega) (fun _ => rfl) (fun i x H2 e2 hi => by
          rw [List.getElem?_map] at hi
          obtain ⟨p, hpi, rfl⟩ := Option.map_eq_some_iff.mp hi
          obtain ⟨d, hdi⟩ : ∃ z, ds[i]? = some z := ⟨_, List.getElem?_eq_getElem (by rw [← h3]; exact (List.getElem?_eq_some_iff.mp hpi).1)⟩
          have eg : ds.getD i (.plain "" []) = d := by rw [List.getD_eq_getElem?_getD, hdi] <;> rfl
          rw [eg]
          exact ev_call (ea_cons (ev_var rfl) ea_nil) fun H3 e3 Q' q' E' => ⟨p, rfl, .inl ⟨d, DeedV.ext ((e1.trans e2).trans e3) (h4 i p d hpi hdi), hok d (List.mem_of_getElem? hdi), q'⟩⟩)
        rw [lc, given_mapA (g := fun d : WD => V.str d.text) (d := .plain "" [])] at z
        rw [List.map_map]
        exact z
      have c0 : Ev (tCall (spRowT K) [] E0 (tCons (tVar 0) tNil)) [some (.ref a), none] H1 (.str (manyT ds.length)) := ev_call (ea_cons (ev_var rfl) ea_nil) fun H2 e2 Q2 q2 E2 => ⟨a, rfl, .inr ⟨c, ps.map V.ref, ex_t (e1.trans e2) h1, ex_t (e1.trans e2) h2, by omega, by rw [lc]; exact q2⟩⟩
      exact s_retL (el_catL (el_lst (ea_cons c0 ea_nil) (by simp)) key (by simp; omega)) fun p H2 np e2 h2 => k p H2 (fresh_back e1 np) (e1.trans e2) h2
abbrev sDText : Stmt := top 9
theorem scDText : FnScope ["deed"] ["deed"] (defScope sDText) := ⟨rfl, rfl, rfl, by decide +kernel, rfl, by decide +kernel, by decide +kernel⟩
theorem ok_dText (F : FnP K "deed_text" sDText f fd) (O_deed_rows : Own P w K mg base 4 "deed_rows" ["deed"] (spDRows K)) : FnOk P w K mg base CX0 5 f fd ["deed"] (spDText K) := by
  have nd := scDText.nd
  refine F.ok scDText (fun vs H Q E h => ?_) (fun cdv A outer s H vs Q E hr h => ⟨_, PSs.nox (pss_one (ps_ret (pe_join pe_str (Hs.pe_own O_deed_rows hr (by first | decide | omega) (by rfl) (pa_cons (pv 0) pa_nil))))), ?_⟩)
  · obtain ⟨a, d, rfl, _⟩ := h
    rfl
  · obtain ⟨a, d, rfl, hd, ok, k⟩ := h
    refine ⟨⟨_, rfl⟩, _, rfl, a, d, rfl, hd, ok, fun p H1 np e1 h1 => ?_⟩
    have rc := rows_cnt ok
    have z := sum_le (k := 1300) _ (rows_len ok)
    have h1' : ("\n" : Str).length = 1 := by decide +kernel
    have lj := join_len (y := "\n") (rows_len ok)
    rw [h1'] at lj
    refine ⟨_, p, d.rows, rfl, rfl, .inl (sq_of h1), ?_, ?_⟩
    · rw [h1']
      omega
    · exact k H1 e1
end
end Hs
namespace Hs
open PySem PySem.Spec PyProof.Rows L2 Evl
/-! ### a deed's text read back -/
def WD.fit (K : PySem.W.Frag) (dF : Addr) : WD → Prop
  | .plain w xs => w ≠ "" ∧ ∃ (fm : Str) (tk : Tok), PySem.W.nsIn K dF w = some (some (.str fm tk)) ∧ fm.cps.all (· < 128) = true ∧ fm.cps.size = xs.length ∧ ∀ (i c : Nat) (v : V), fm.cps[i]? = some c → xs[i]? = some v → RdOk c (thS v) v
  | .unsure rows => rows ≠ []
def DD.fit (K : PySem.W.Frag) (dF : Addr) : DD → Prop
  | .one d => d.fit K dF
  | .many ds => ∀ d ∈ ds, d.fit K dF
theorem row_reads {K : PySem.W.Frag} {dF : Addr} {d : WD} {H : Hp} {Q : VK} {E : XK} (ok : d.ok) (ft : d.fit K dF) (k : ∀ (p : Addr) (H' : Hp), H p = none → Ex H H' → DeedV K H' p d → Q (.ref p) H') : spReadRow K dF [.str d.text] H Q E := by
  have tl := text_len ok
  refine ⟨_, rfl, by omega, ?_⟩
  cases d with
  | plain w xs =>
    obtain ⟨h1, h2, h3, h4⟩ := ok
    obtain ⟨hw, fm, tk, f1, f2, f3, f4⟩ := ft
    have e : thS (.str w) = w := if_neg hw
    refine .inl ⟨w, xs.map thS, fm, xs, ?_, h2, .inr ⟨h1, tk, f1⟩, f2, by rw [List.length_map, f3], by rw [List.length_map], by rw [List.length_map]; omega, fun i c t v hc ht hv => ?_, k⟩
    · have z := split_row (xs := .str w :: xs) (by simp) h3
      rw [List.map_cons, e] at z
      show Txt.split (Txt.join " " ((V.str w :: xs).map thS)) " " = _
      rw [List.map_cons, e]
      exact z
    · rw [List.getElem?_map, hv] at ht
      cases ht
      exact f4 i c v hc hv
  | unsure rows => exact .inr ⟨rows, split_unsure ft (fun r hr e => by have := (ok.2 r hr).1; rw [e] at this; exact absurd this (by decide)), ft, ok, k⟩
theorem many_free {n c : Nat} (h : c = 32 ∨ c = 10) : c ∉ TL.tl (numS n) ∧ c ∉ TL.tl ("many" : Str) := by
  refine ⟨numS_free (.inl (by omega)), ?_⟩
  rcases h with rfl | rfl <;> decide +kernel
theorem many_reads {K : PySem.W.Frag} {dF : Addr} {n : Nat} {H : Hp} {Q : VK} {E : XK} (hn : n ≤ 50) (k : ∀ (p : Addr) (H' : Hp), H p = none → Ex H H' → SqT K H' p [.str "many", .int (n : Int)] → Q (.ref p) H') : spReadRow K dF [.str (manyT n)] H Q E := by
  have tl := manyT_len hn
  refine ⟨_, rfl, by omega, .inl ⟨"many", [numS n], "n", [.int (n : Int)], ?_, by decide +kernel, .inl ⟨rfl, rfl, n, rfl⟩, by decide +kernel, (show ("n" : Str).cps.size = 1 by decide +kernel), rfl, by simp, fun i c t v hc ht hv => ?_, k⟩⟩
  · refine TL.split_join sp_tl sp_kind (by simp) fun p hp => ?_
    simp only [List.mem_cons, List.not_mem_nil, or_false] at hp
    rcases hp with rfl | rfl
    · exact (many_free (n := n) (.inl rfl)).2
    · exact (many_free (.inl rfl)).1
  · match i, ht, hv, hc with
    | 0, ht, hv, hc =>
      cases ht
      cases hv
      refine .inl ⟨?_, n, rfl, rfl, by omega⟩
      have e : ("n" : Str).cps[0]? = some 110 := by decide +kernel
      rw [e] at hc
      exact (Option.some.inj hc).symm
    | i + 1, ht, _, _ => cases ht
theorem rows_ne {d : DD} : d.rows ≠ [] := by
  cases d <;> simp [DD.rows]
theorem rows_split {d : DD} (ok : d.ok) : Txt.split d.text "\n" = d.rows := by
  refine split_rows rows_ne fun t ht => ?_
  cases d with
  | one d =>
    rw [List.mem_singleton.mp ht]
    exact text_free ok
  | many ds =>
    rcases List.mem_cons.mp ht with rfl | ht
    · refine join_free (by decide +kernel) fun p hp => ?_
      simp only [List.mem_cons, List.not_mem_nil, or_false] at hp
      rcases hp with rfl | rfl
      · exact (many_free (n := 0) (.inr rfl)).2
      · exact (many_free (.inr rfl)).1
    · obtain ⟨d, hd, rfl⟩ := List.mem_map.mp ht
      exact text_free (ok.2 d hd)
theorem DeedV.kp {K : PySem.W.Frag} {H H' : Hp} {a : Addr} {d : WD} (e : Kp H H') (h : DeedV K H a d) : DeedV K H' a d := by
  cases d with
  | plain w xs => exact e.sqt (K := K) h
  | unsure rows =>
    obtain ⟨c, ps, h1, h2, h3, h4⟩ := h
    exact ⟨c, ps, e.sqt h1, e.sqt h2, h3, fun i p r hp hr => e.sqt (h4 i p r hp hr)⟩
theorem q_call {sp : Sp} {dvs vs : List V} {E : XK} {ta : TA} {tz : TS} {D : Ends} {σ : L2.St} {H : Hp} {i : Nat} (h : EvA ta σ H vs) (k : ∀ H1, Ex H H1 → sp (vs ++ dvs) H1 (fun v H2 => tz D (σ.set i (some v)) H2) E) : tSeq (tAsg (tCall sp dvs E ta) (gName i)) tz D σ H := h H (Ex.refl _) _ fun H1 e1 => k H1 e1
theorem q_callG {sp : Sp} {dvs vs : List V} {E : XK} {ta : TA} {tz : TS} {D : Ends} {σ : L2.St} {H : Hp} {g : TG} (h : EvA ta σ H vs) (k : ∀ H1, Ex H H1 → sp (vs ++ dvs) H1 (fun v H2 => g v σ H2 fun σ' H' => tz D σ' H') E) : tSeq (tAsg (tCall sp dvs E ta) g) tz D σ H := h H (Ex.refl _) _ fun H1 e1 => k H1 e1
def spReadFrom (K : PySem.W.Frag) (dF : Addr) : Sp := fun vs H Q _ => ∃ (a : Addr) (d : DD), vs = [.ref a, .int 0] ∧ SqL K H a (d.rows.map V.str) ∧ d.ok ∧ d.fit K dF ∧ ∀ (t p : Addr) (H' : Hp), Ex H H' → SqT K H' t [.ref p, .int (d.rows.length : Int)] → DDV K H' p d → Q (.ref t) H'
def spReadDeed (K : PySem.W.Frag) (dF : Addr) : Sp := fun vs H Q _ => ∃ d : DD, vs = [.str d.text] ∧ d.ok ∧ d.fit K dF ∧ ∀ (p : Addr) (H' : Hp), Ex H H' → DDV K H' p d → Q (.ref p) H'
section
variable {P : Program} {w : World} {K : PySem.W.Frag} {mg : Str → Option Value} {base : Heap} {f dF : Addr} {fd : FuncData}
abbrev sReadFrom : Stmt := top 15
theorem scReadFrom : FnScope ["rows", "first", "deed", "within", "end", "number", "other"] ["rows", "first"] (defScope sReadFrom) := ⟨rfl, rfl, rfl, by decide +kernel, rfl, by decide +kernel, by decide +kernel⟩
theorem ok_readFrom (F : FnP K "read_from" sReadFrom f fd) (O_read_row : Own P w K mg base 4 "read_row" ["row"] (spReadRow K dF)) (g_len : mg "len" = none) (g_range : mg "range" = none) (g_min : mg "min" = none) (g_tuple : mg "tuple" = none) : FnOk P w K mg base CX0 5 f fd ["rows", "first"] (spReadFrom K dF) := by
  have nd := scReadFrom.nd
  refine F.ok scReadFrom (fun vs H Q E h => ?_) (fun cdv A outer s H vs Q E hr h => ⟨_, PSs.nox (pss_cons (ps_set (i := 2) nd rfl (.inl rfl) (Hs.pe_own O_read_row hr (by first | decide | omega) (by rfl) (pa_cons (pe_ix (r := rIxL K) ix_list (pv 0) (pv 1) (fun _ _ => rfl)) pa_nil)))
  (pss_cons (ps_if (pt_cmpR op_isN (pv 2) pe_non (nomark _)) (pss_one ps_never) pss_nil)
  (pss_cons (ps_if (pt_cmpR op_ne (pe_ix (r := rIxT K) ix_tup (pv 2) pe_int (fun _ _ => rfl)) pe_str (nomark _)) (pss_one (ps_ret (pe_tup (pa_cons (pv 2) (pa_cons (pe_op op_add (pv 1) pe_int) pa_nil))))) pss_nil)
  (pss_cons (ps_set (i := 3) nd rfl (.inl rfl) (pe_lst pa_nil))
  (pss_cons (ps_set (i := 4) nd rfl (.inl rfl) (pe_op op_add (pe_op op_add (pv 1) pe_int) (pe_ix (r := rIxT K) ix_tup (pv 2) pe_int (fun _ _ => rfl))))
  (pss_cons (ps_for PassesOwn.never rfl (pi_range2 (by rfl) g_range (pa_cons (pe_op op_add (pv 1) pe_int) (pa_cons (pe_callB (call_min2 rfl) (by rfl) g_min (by decide +kernel) (pa_cons (pv 4) (pa_cons (pe_callB (r := Evl.rLenS K) call_len_seq (by rfl) g_len PySem.boot_len (pa_cons (pv 0) pa_nil)) pa_nil))) pa_nil))) (pg_name (i := 5) nd rfl (.inl rfl)) (pss_cons (ps_set (i := 6) nd rfl (.inl rfl) (Hs.pe_own O_read_row hr (by first | decide | omega) (by rfl) (pa_cons (pe_ix (r := rIxL K) ix_list (pv 0) (pv 5) (fun _ _ => rfl)) pa_nil)))
  (pss_cons (ps_if (PW.pt (pw_or (pt_cmpR op_isN (pv 6) pe_non (nomark _)) (pw_or1 (pt_cmpR op_eq (pe_ix (r := rIxT K) ix_tup (pv 6) pe_int (fun _ _ => rfl)) pe_str (nomark _))))) (pss_one ps_never) pss_nil)
  (pss_one (ps_expr (pe_bm PySem.F.plainAttrs_list PySem.F.slot_list_append PySem.F.type_list_append mt_append (pv 3) (pa_cons (pv 6) pa_nil)))))))
  (pss_cons (ps_if (pt_cmpR op_gt (pv 4) (pe_callB (r := Evl.rLenS K) call_len_seq (by rfl) g_len PySem.boot_len (pa_cons (pv 0) pa_nil)) (nomark _)) (pss_one ps_never) pss_nil)
  (pss_one (ps_ret (pe_tup (pa_cons (pe_tup (pa_cons pe_str (pa_cons (pe_callTy call_tuple_of (by rfl) g_tuple (by decide +kernel) (pa_cons (pv 3) pa_nil)) pa_nil))) (pa_cons (pv 4) pa_nil)))))))))))), ?_⟩)
  · obtain ⟨a, d, rfl, _⟩ := h
    rfl
  · obtain ⟨a, d, rfl, hx, ok, ft, k⟩ := h
    cases d with
    | one d =>
      refine q_call (ea_cons (ev_op (ev_var rfl) (ev_var rfl) (rv_ixL (v := .str d.text) hx rfl)) ea_nil) fun H1 e1 => row_reads ok ft fun p H2 np e2 hp => ?_
      dsimp only [List.set]
      obtain ⟨wd, xs, hs, nm⟩ := hp.head ok
      refine q_when (b := false) (et_nonR rfl) (fun ht => Bool.noConfusion ht) (fun _ H3 e3 => ?_)
      refine q_when (b := true) (et_is (et_test (ev_op (ev_op (ev_var rfl) ev_c (rv_ixT (v := .str wd) (ex_t e3 hs) (atI_nat (xs := .str wd :: xs) (j := 0) rfl))) ev_c (rv_ne rfl))) (by simp [nm])) (fun _ H4 e4 => ?_) (fun ht => Bool.noConfusion ht)
      refine s_retU (eu_tup (ea_cons (ev_var rfl) (ea_cons (ev_op (ev_var rfl) ev_c rv_I0) ea_nil)) (by simp)) fun t H5 nt e5 h5 => ?_
      have e35 := (e3.trans e4).trans e5
      exact k t p H5 ((e1.trans e2).trans e35) (st_of h5) (DeedV.ext e35 hp)
    | many ds =>
      obtain ⟨ld, hok⟩ := ok
      have hx : SqL K H a ((manyT ds.length :: ds.map WD.text).map V.str) := hx
      refine q_call (ea_cons (ev_op (ev_var rfl) (ev_var rfl) (rv_ixL (v := .str (manyT ds.length)) hx (atI_nat (j := 0) rfl))) ea_nil) fun H1 e1 => many_reads (by omega) fun p H2 np e2 hp => ?_
      dsimp only [List.set]
      refine q_when (b := false) (et_nonR rfl) (fun ht => Bool.noConfusion ht) (fun _ H3 e3 => ?_)
      refine q_when (b := false) (et_is (et_test (ev_op (ev_op (ev_var rfl) ev_c (rv_ixT (v := .str "many") (ex_t e3 hp) rfl)) ev_c (rv_ne rfl))) (by simp)) (fun ht => Bool.noConfusion ht) (fun _ H4 e4 => ?_)
      refine q_asgL (el_lst ea_nil (by simp)) fun D H5 nD e5 hD => ?_
      refine q_asg (ev_op (ev_op (ev_var rfl) ev_c rv_I0) (ev_op (ev_var rfl) ev_c (rv_ixT (v := .int (ds.length : Int)) (ex_t ((e3.trans e4).trans e5) hp) rfl)) rv_I0) fun H6 e6 => ?_
      have e06 := ((((e1.trans e2).trans e3).trans e4).trans e5).trans e6
      have lr : ((manyT ds.length :: ds.map WD.text).map V.str).length = ds.length + 1 := by simp
      have nD0 : H D = none := fresh_back (((e1.trans e2).trans e3).trans e4) nD
      have emin : ∀ {H7 : Hp}, Ex H6 H7 → Ev (tCB (fun xs H Q => ∃ i j, xs = [V.int i, V.int j] ∧ Q (V.int (if j < i then j else i)) H) (tCons (tVar 4) (tCons (tCB (rLenS K) (tCons (tVar 0) tNil)) tNil))) [some (.ref a), some (.int 0), some (.ref p), some (.ref D), some (.int (0 + 1 + (ds.length : Int))), none, none] H7 (.int (1 + (ds.length : Int))) := fun e7 H8 e8 Q8 q8 => ⟨_, rfl, _, rfl, a, _, rfl, .inl (ex_l ((e06.trans e7).trans e8) hx), _, _, rfl, by
        have e9 : (if (((manyT ds.length :: ds.map WD.text).map V.str).length : Int) < 0 + 1 + (ds.length : Int) then (((manyT ds.length :: ds.map WD.text).map V.str).length : Int) else 0 + 1 + (ds.length : Int)) = 1 + (ds.length : Int) := by
          rw [lr]
          split <;> omega
        rw [e9]
        exact q8 H8 (Ex.refl _)⟩
      refine q_forR2 (lo := 1) (n := 1 + (ds.length : Int)) (ea_cons (ev_op (ev_var rfl) ev_c rv_I0) (ea_cons (emin (Ex.refl _)) ea_nil)) (by omega) (fun i σ' H' => Ex H H' ∧ ∃ (v5 v6 : Option V) (ps : List Addr), σ' = [some (.ref a), some (.int 0), some (.ref p), some (.ref D), some (.int (0 + 1 + (ds.length : Int))), v5, v6] ∧ H' D = some (.lst (ps.map V.ref)) ∧ ps.length = i ∧ ∀ (j : Nat) (q : Addr) (d : WD), ps[j]? = some q → ds[j]? = some d → DeedV K H' q d) ?_ ?_ ?_
      · intro H7 e7
        exact ⟨e06.trans e7, none, none, [], rfl, (e6.trans e7) _ _ hD, rfl, fun _ _ _ h _ => by cases h⟩
      · rintro i σ' H' hi ⟨e, v5, v6, ps, rfl, hDl, hpl, hps⟩
        have hi' : i < ds.length := by omega
        obtain ⟨d, hd⟩ : ∃ d, ds[i]? = some d := ⟨_, List.getElem?_eq_getElem hi'⟩
        have hat : ((manyT ds.length :: ds.map WD.text).map V.str)[i + 1]? = some (.str d.text) := by
          rw [List.map_cons, List.getElem?_cons_succ, List.getElem?_map, List.getElem?_map, hd] <;> rfl
        have hat2 : atI ((manyT ds.length :: ds.map WD.text).map V.str) (1 + (i : Int)) = some (.str d.text) := by
          have z := atI_nat hat
          rwa [show ((i + 1 : Nat) : Int) = 1 + (i : Int) by omega] at z
        refine q_call (ea_cons (ev_op (ev_var rfl) (ev_var rfl) (rv_ixL (v := .str d.text) (ex_l e hx) hat2)) ea_nil) fun H7 e7 => row_reads (hok d (List.mem_of_getElem? hd)) (ft d (List.mem_of_getElem? hd)) fun q H8 nq e8 hq => ?_
        dsimp only [List.set]
        obtain ⟨wd, xs, hs, nm⟩ := hq.head (hok d (List.mem_of_getElem? hd))
        refine q_when (b := false) (et_is (et_or (a := false) (b := false) (et_nonR rfl) fun _ => et_is (et_test (ev_op (ev_op (ev_var rfl) ev_c (rv_ixT (v := .str wd) hs (atI_nat (xs := .str wd :: xs) (j := 0) rfl))) ev_c (rv_eq rfl))) (by simp [nm])) rfl) (fun ht => Bool.noConfusion ht) (fun _ H9 e9 => ?_)
        have e79 := (e7.trans e8).trans e9
        refine s_app (e79 _ _ hDl) (ev_var rfl) (ev_var rfl) (by rw [List.length_map]; omega) fun H10 e10 => ?_
        have kp : Kp H' (upd H10 D (.lst (ps.map V.ref ++ [.ref q]))) := ⟨fun _ _ h => (Kp.upd ((e79.trans e10) _ _ hDl)).t _ _ ((e79.trans e10) _ _ h), fun _ _ _ h => (Kp.upd ((e79.trans e10) _ _ hDl)).f _ _ _ ((e79.trans e10) _ _ h)⟩
        have kp8 : Kp H8 (upd H10 D (.lst (ps.map V.ref ++ [.ref q]))) := ⟨fun _ _ h => (Kp.upd ((e79.trans e10) _ _ hDl)).t _ _ ((e9.trans e10) _ _ h), fun _ _ _ h => (Kp.upd ((e79.trans e10) _ _ hDl)).f _ _ _ ((e9.trans e10) _ _ h)⟩
        refine ⟨Ex.mut ((e.trans e79).trans e10) nD0, _, _, ps ++ [q], rfl, by rw [List.map_append] <;> exact upd_same, by rw [List.length_append, hpl] <;> rfl, fun j p' d' hj hd' => ?_⟩
        by_cases hji : j < ps.length
        · rw [List.getElem?_append_left hji] at hj
          exact DeedV.kp kp (hps j p' d' hj hd')
        · rw [List.getElem?_append_right (Nat.not_lt.mp hji)] at hj
          have hj0 : j - ps.length = 0 := by
            have := (List.getElem?_eq_some_iff.mp hj).1
            simp at this
            omega
          rw [hj0] at hj
          cases hj
          rw [show j = i by omega, hd] at hd'
          cases hd'
          exact DeedV.kp kp8 hq
      · rintro σ' H' ⟨e, v5, v6, ps, rfl, hDl, hpl, hps⟩
        refine q_when (b := false) (et_is (et_test (ev_op (ev_var rfl) (ev_len (K := K) (ev_var (v := .ref a) rfl) (ex_l e hx)) rv_I0)) (decide_eq_false (by rw [lr]; omega))) (fun ht => Bool.noConfusion ht) (fun _ H7 e7 => ?_)
        refine ⟨_, rfl, D, ps.map V.ref, rfl, .inl ⟨sq_of (e7 _ _ hDl), fun l hl => ?_⟩⟩
        have el := Ex.new (o := .tup (ps.map V.ref)) hl
        refine ⟨sz_of (by simp), fun q hq => ⟨_, rfl, sz_of (by simp), fun t ht => ?_⟩⟩
        have eq := Ex.new (o := .tup [V.str "many", .ref l]) hq
        have et := Ex.new (o := .tup [V.ref q, .int (0 + 1 + (ds.length : Int))]) ht
        have ez : ((DD.many ds).rows.length : Int) = 0 + 1 + (ds.length : Int) := by
          show ((manyT ds.length :: ds.map WD.text).length : Int) = _
          rw [List.length_cons, List.length_map]
          omega
        refine k t q _ (e.trans (((e7.trans el).trans eq).trans et)) (by rw [ez]; exact st_of upd_same) ⟨l, ps, ex_t et (st_of upd_same), ex_t (eq.trans et) (st_of upd_same), ?_, fun j p' d' hj hd' => DeedV.ext (((e7.trans el).trans eq).trans et) (hps j p' d' hj hd')⟩
        rw [hpl]
        omega
abbrev sReadDeed : Stmt := top 16
theorem scReadDeed : FnScope ["text", "rows", "deed", "end"] ["text"] (defScope sReadDeed) := ⟨rfl, rfl, rfl, by decide +kernel, rfl, by decide +kernel, by decide +kernel⟩
theorem ok_readDeed (F : FnP K "read_deed" sReadDeed f fd) (O_read_from : Own P w K mg base 5 "read_from" ["rows", "first"] (spReadFrom K dF)) (g_len : mg "len" = none) : FnOk P w K mg base CX0 6 f fd ["text"] (spReadDeed K dF) := by
  have nd := scReadDeed.nd
  refine F.ok scReadDeed (fun vs H Q E h => ?_) (fun cdv A outer s H vs Q E hr h => ⟨_, PSs.nox (pss_cons (ps_set (i := 1) nd rfl (.inl rfl) (pe_split (pv 0) pe_str))
  (pss_cons (ps_asg (Hs.pe_own O_read_from hr (by first | decide | omega) (by rfl) (pa_cons (pv 1) (pa_cons pe_int pa_nil))) (pg_tup rfl (pgs_cons (pg_name (i := 2) nd rfl (.inl rfl)) (pgs_cons (pg_name (i := 3) nd rfl (.inl rfl)) pgs_nil))))
  (pss_cons (ps_if (pt_cmpR op_lt (pv 3) (pe_callB (r := Evl.rLenS K) call_len_seq (by rfl) g_len PySem.boot_len (pa_cons (pv 1) pa_nil)) (nomark _)) (pss_one ps_never) pss_nil)
  (pss_one (ps_ret (pv 2)))))), ?_⟩)
  · obtain ⟨d, rfl, _⟩ := h
    rfl
  · obtain ⟨d, rfl, ok, ft, k⟩ := h
    have rc := rows_cnt ok
    have lj := join_len (y := "\n") (rows_len ok)
    have h1' : ("\n" : Str).length = 1 := by decide +kernel
    rw [h1'] at lj
    have lt : d.text.length ≤ 60000 := by
      show (Txt.join "\n" d.rows).length ≤ 60000
      have : d.rows.length * (1300 + 1) ≤ 21 * 1301 := Nat.mul_le_mul rc (Nat.le_refl _)
      omega
    refine ⟨_, rfl, ⟨_, rfl⟩, d.text, "\n", rfl, rfl, by decide +kernel, sz_of (by omega), fun p0 hp0 => ?_⟩
    rw [rows_split ok]
    have e0 := Ex.new (o := .lst (d.rows.map V.str)) hp0
    dsimp only [gName, List.set]
    generalize hH1 : upd H p0 _ = H1
    have h1 : H1 p0 = some (.lst (d.rows.map V.str)) := by
      rw [← hH1]
      exact upd_same
    rw [hH1] at e0
    refine q_callG (ea_cons (ev_var (v := .ref p0) rfl) (ea_cons ev_c ea_nil)) fun H2 e2 => ⟨p0, d, rfl, sq_of (e2 _ _ h1), ok, ft, fun t p H3 e3 ht hp => ?_⟩
    refine ⟨t, _, rfl, ht, rfl, ?_⟩
    refine ⟨_, _, rfl, _, _, rfl, rfl, ?_⟩
    dsimp only [List.set]
    refine q_when (b := false) (et_is (et_test (ev_op (ev_var rfl) (ev_len (K := K) (ev_var (v := .ref p0) rfl) (sq_of ((e2.trans e3) _ _ h1))) rv_I0)) (decide_eq_false (by rw [List.length_map]; omega))) (fun ht => Bool.noConfusion ht) (fun _ H4 e4 => ?_)
    refine s_ret (ev_var rfl) fun H5 e5 => ?_
    have e35 := e4.trans e5
    exact k p H5 (((e0.trans e2).trans e3).trans e35) (DDV.ext e35 hp)
end
end Hs
namespace Hs
open PySem PySem.Spec PyProof.Rows L2 Evl
theorem cut63 {xs : List V} (h : xs.length ≤ 63) : cutV xs none (some 63) = xs := by
  have e1 : HT.sIx xs.length 0 none = 0 := rfl
  have e2 : HT.sIx xs.length xs.length (some 63) = xs.length := by
    show min (63 : Int).toNat xs.length = xs.length
    omega
  unfold cutV
  rw [e1, e2, List.drop_zero, Nat.sub_zero, List.take_length]
section
variable {P : Program} {w : World} {K : PySem.W.Frag} {mg : Str → Option Value} {base : Heap} {f : Addr} {fd : FuncData}
abbrev sBag : Stmt := top 18
theorem scBag : FnScope ["_law_script", "_law_salt", "_law_cell"] ["_law_script"] (defScope sBag) := ⟨rfl, rfl, rfl, by decide +kernel, rfl, by decide +kernel, by decide +kernel⟩
theorem ok_bag (F : FnP K "_law_bag" sBag f fd) (g_len : mg "len" = none) (g_list : mg "list" = none) : FnOk P w K mg base CX0 1 f fd ["_law_script"] (spBag K) := by
  have nd := scBag.nd
  refine F.ok scBag (fun vs H Q E h => ?_) (fun cdv A outer s H vs Q E hr h => ⟨_, PSs.nox (pss_cons (ps_set (i := 1) nd rfl (.inl rfl) (pe_op op_add pe_int (pe_callB (r := Evl.rLenS K) call_len_seq (by rfl) g_len PySem.boot_len (pa_cons (pe_slice sl_list (pv 0) po_none (po_some pe_int)) pa_nil))))
  (pss_cons (ps_for PassesOwn.never rfl (pi_list (pe_slice sl_list (pv 0) po_none (po_some pe_int))) (pg_name (i := 2) nd rfl (.inl rfl)) (pss_one (ps_set (i := 1) nd rfl (.inl rfl) (pe_op op_modN (pe_op op_add (pe_op op_add (pe_op op_mulW (pv 1) pe_int) (pe_op op_modN (pv 2) pe_int)) pe_int) pe_int))))
  (pss_one (ps_ret (pe_lst (pa_cons (pe_callTy (r := Evl.rListS K) call_list_of (by rfl) g_list (by decide +kernel) (pa_cons (pe_slice sl_list (pv 0) po_none (po_some pe_int)) pa_nil)) (pa_cons pe_int (pa_cons pe_int (pa_cons (pv 1) (pa_cons pe_int pa_nil)))))))))), ?_⟩)
  · obtain ⟨a, ns, rfl, _⟩ := h
    rfl
  · obtain ⟨a, ns, rfl, hS, hl, k⟩ := h
    have hl2 : (ns.map V.int).length ≤ 63 := by rw [List.length_map]; exact hl
    have sl : ∀ {σ : L2.St} {H' : Hp}, σ[0]? = some (some (.ref a)) → Ex H H' → EvL (tSl (rSlL K) (tVar 0) tNoPart (tPart (tC (.int 63)))) σ H' (ns.map V.int) := fun {σ H'} h0 e => by
      have q := el_sl (K := K) (σ := σ) (H := H') (ev_var h0) eo_none (eo_some (i := 63) ev_c) (ex_l e hS)
      rw [cut63 hl2] at q
      exact q
    refine q_asg (ev_op ev_c (ev_lenN (sl rfl (Ex.refl H))) rv_I0) fun H1 e1 => ?_
    refine q_forNLn (sl rfl e1) (fun p i σ' H' => Ex H H' ∧ H' p = some (.lst (ns.map V.int)) ∧ ∃ (s0 : Int) (v : Option V), σ' = [some (.ref a), some (.int s0), v] ∧ 0 ≤ s0 ∧ s0 < 2147483647) ?_ ?_ ?_ ?_
    · intro p H2 hp e2 h2
      exact ⟨e1.trans e2, h2, _, none, rfl, by omega, by omega⟩
    · rintro p i σ' H' hi ⟨_, h, _⟩
      exact sq_of h
    · rintro p i x σ' H' hx ⟨e, h, s0, v, rfl, h0, h1⟩
      obtain ⟨z, rfl⟩ : ∃ z, x = V.int z := by
        rw [List.getElem?_map] at hx
        cases ez : ns[i]? with
        | none =>
          rw [ez] at hx
          cases hx
        | some z =>
          rw [ez] at hx
          exact ⟨z, (Option.some.inj hx).symm⟩
      refine s_asg (ev_op (ev_op (ev_op (ev_op (ev_var rfl) ev_c (rv_I (mul64 (by omega) (by decide)))) (ev_op (ev_var rfl) ev_c (rv_I (show (2147483629 : Int) ≠ 0 by decide))) rv_I0) ev_c rv_I0) ev_c (rv_I (show (2147483647 : Int) ≠ 0 by decide))) fun H2 e2 => ?_
      have hp := modP (i := s0 * 48271 + z.fmod 2147483629 + 7) (j := 2147483647) (by decide)
      exact ⟨e.trans e2, e2 _ _ h, _, _, rfl, hp.1, hp.2⟩
    · rintro p σ' H' ⟨e, h, s0, v, rfl, h0, h1⟩
      refine sl (σ := [some (.ref a), some (.int s0), v]) rfl e H' (Ex.refl _) _ fun q H2 hq e2 h2 => ⟨q, _, rfl, .inl (sq_of h2), fun l hl3 => ⟨_, rfl, sz_of (by simp), fun b hb3 => ?_⟩⟩
      have hne : l ≠ b := fun z => by
        rw [← z, upd_same] at hb3
        cases hb3
      have e3 : Ex H (upd H2 l (.lst (ns.map V.int))) := (e.trans e2).trans (Ex.new hl3)
      refine k b l _ (fresh_back e3 hb3) (fresh_back (e.trans e2) hl3) ⟨⟨0, 0, s0, 0, upd_same, Nat.zero_le _, h0, h1, Nat.le_refl _⟩, ?_, Ne.symm hne⟩ (e3.trans (Ex.new hb3))
      rw [upd_ne hne, upd_same]
end
end Hs
namespace Hs
open PySem PySem.Spec PyProof.Rows L2 Evl
/-! ### two data alike: the law's own comparison -/
def Sm (K : PySem.W.Frag) (H : Hp) : Nat → V → V → Prop
  | 0, _, _ => False
  | d + 1, u, v => (u = v ∧ flatV u = true) ∨ ∃ (a b : Addr) (xs ys : List V), u = .ref a ∧ v = .ref b ∧ ((SqL K H a xs ∧ SqL K H b ys) ∨ (SqT K H a xs ∧ SqT K H b ys)) ∧ xs.length = ys.length ∧ xs.length ≤ 1000 ∧
      ∀ (i : Nat) (x y : V), xs[i]? = some x → ys[i]? = some y → Sm K H d x y
theorem Sm.ext {K : PySem.W.Frag} {H H' : Hp} (e : Ex H H') : ∀ {d : Nat} {u v : V}, Sm K H d u v → Sm K H' d u v
  | 0, _, _, h => h.elim
  | d + 1, u, v, h => by
    rcases h with h | ⟨a, b, xs, ys, h1, h2, h3, h4, h5, h6⟩
    · exact .inl h
    · refine .inr ⟨a, b, xs, ys, h1, h2, ?_, h4, h5, fun i x y hx hy => Sm.ext e (h6 i x y hx hy)⟩
      rcases h3 with ⟨p, q⟩ | ⟨p, q⟩
      · exact .inl ⟨ex_l e p, ex_l e q⟩
      · exact .inr ⟨ex_t e p, ex_t e q⟩
def spSame (K : PySem.W.Frag) (d : Nat) : Sp := fun vs H Q _ => ∃ u v : V, vs = [u, v] ∧ Sm K H d u v ∧ RetV (.bl true) H Q
/-- of the built-in type t, whatever is new -/
def Ty (K : PySem.W.Frag) (H : Hp) (x : V) (t : String) : Prop := ∀ H1, Ex H H1 → TyX K H1 x (.type t)
theorem ty_l {K : PySem.W.Frag} {H : Hp} {a : Addr} {xs : List V} (h : SqL K H a xs) : Ty K H (.ref a) "list" := fun H1 e => by
  rcases ex_l e h with (h | ⟨o, h⟩) | ⟨o, its, n, h1, h2, _⟩
  · exact .base (.lst h)
  · exact .base (.frz h)
  · exact .kList h1 h2
theorem ty_t {K : PySem.W.Frag} {H : Hp} {a : Addr} {xs : List V} (h : SqT K H a xs) : Ty K H (.ref a) "tuple" := fun H1 e => by
  rcases ex_t e h with (h | ⟨o, h⟩) | ⟨o, its, n, h1, h2, _⟩
  · exact .base (.tup h)
  · exact .fTuple h
  · exact .kTuple h1 h2
theorem ty_bl {K : PySem.W.Frag} {H : Hp} {b : Bool} : Ty K H (.bl b) "bool" := fun _ _ => .base (.bl b)
theorem ty_int {K : PySem.W.Frag} {H : Hp} {b : Int} : Ty K H (.int b) "int" := fun _ _ => .base (.int b)
theorem ty_str {K : PySem.W.Frag} {H : Hp} {b : Str} : Ty K H (.str b) "str" := fun _ _ => .base (.str b)
theorem ev_isi {K : PySem.W.Frag} {σ : L2.St} {H : Hp} {te : TE} {x : V} {t c : String} {b : Bool} (h : Ev te σ H x) (ht : Ty K H x t) (hk : kitB t c = some b) : Ev (tCB (rIsi K) (tCons te (tCons (tC (.ty c)) tNil))) σ H (.bl b) := fun H1 e Q q =>
  h H1 e _ fun H2 e2 => ⟨x, .ty c, .type t, .type c, b, rfl, .ty c, ht H2 (e.trans e2), kit_ty hk, q H2 e2⟩
theorem ev_isi2 {K : PySem.W.Frag} {σ : L2.St} {H : Hp} {te : TE} {x : V} {t c c' : String} {b b' : Bool} (h : Ev te σ H x) (ht : Ty K H x t) (hk : kitB t c = some b) (hk' : kitB t c' = some b') :
    Ev (tCB (rIsiT K) (tCons te (tCons (tTup (tCons (tC (.ty c)) (tCons (tC (.ty c')) tNil))) tNil))) σ H (.bl (b || b')) := fun H1 e Q q =>
  h H1 e _ fun H2 e2 => ⟨sz_of (by simp), fun p hp => ⟨x, p, [.ty c, .ty c'], .type t, [.type c, .type c'], b || b', rfl, upd_same, .cons (.ty c) (.cons (.ty c') .nil), ht _ ((e.trans e2).trans (Ex.new hp)), by
    refine kitAny_cons (kit_ty hk) (fun hb => ?_) (fun hb => by rw [hb] <;> rfl)
    rw [hb, Bool.false_or]
    exact kitAny_cons (kit_ty hk') (fun hb' => by rw [hb']; exact kitAny_nil) (fun hb' => hb'), q _ (e2.trans (Ex.new hp))⟩⟩
theorem rv_ixQ {K : PySem.W.Frag} {H : Hp} {p : Addr} {xs : List V} {i : Int} {v : V} (h : SqL K H p xs ∨ SqT K H p xs) (ha : atI xs i = some v) : RV (rIx K) (.ref p) (.int i) H v := fun H1 e Q q => by
  rcases h with h | h
  · exact .inl (rv_ixL h ha H1 e Q q)
  · exact .inr (.inl (rv_ixT h ha H1 e Q q))
theorem ev_lenQ {K : PySem.W.Frag} {σ : L2.St} {H : Hp} {ta : TE} {p : Addr} {xs : List V} (ha : Ev ta σ H (.ref p)) (h : SqL K H p xs ∨ SqT K H p xs) : Ev (tCB (rLenS K) (tCons ta tNil)) σ H (.int (xs.length : Int)) := fun H1 e Q q =>
  ha H1 e _ fun H2 e2 => ⟨p, xs, rfl, h.imp (fun h => ex_l (e.trans e2) h) (fun h => ex_t (e.trans e2) h), q H2 e2⟩
theorem given_true (n : Nat) : given n (fun _ => true) (fun _ => V.bl true) = (List.replicate n true).map V.bl := by
  induction n with
  | zero => rfl
  | succ n ih =>
    rw [given_yes rfl, ih, List.replicate_succ', List.map_append] <;> rfl
theorem ev_allT {K : PySem.W.Frag} {σ : L2.St} {H : Hp} {te : TE} {n : Nat} (h : EvL te σ H (given n (fun _ => true) (fun _ => V.bl true))) : Ev (tCB (rAll K) (tCons te tNil)) σ H (.bl true) := fun H1 e Q q =>
  h H1 e _ fun p H2 _ e2 h2 => ⟨p, List.replicate n true, rfl, sq_of (by rw [h2, given_true]), by
    have e3 : (List.replicate n true).all id = true := by simp
    rw [e3]
    exact q H2 e2⟩
theorem kb_bool_bool : kitB "bool" "bool" = some true := by decide +kernel
theorem kb_bool_int : kitB "bool" "int" = some true := by decide +kernel
theorem kb_bool_str : kitB "bool" "str" = some false := by decide +kernel
theorem kb_bool_list : kitB "bool" "list" = some false := by decide +kernel
theorem kb_bool_tuple : kitB "bool" "tuple" = some false := by decide +kernel
theorem kb_int_bool : kitB "int" "bool" = some false := by decide +kernel
theorem kb_int_int : kitB "int" "int" = some true := by decide +kernel
theorem kb_int_str : kitB "int" "str" = some false := by decide +kernel
theorem kb_int_list : kitB "int" "list" = some false := by decide +kernel
theorem kb_int_tuple : kitB "int" "tuple" = some false := by decide +kernel
theorem kb_str_bool : kitB "str" "bool" = some false := by decide +kernel
theorem kb_str_int : kitB "str" "int" = some false := by decide +kernel
theorem kb_str_str : kitB "str" "str" = some true := by decide +kernel
theorem kb_str_list : kitB "str" "list" = some false := by decide +kernel
theorem kb_str_tuple : kitB "str" "tuple" = some false := by decide +kernel
theorem kb_list_bool : kitB "list" "bool" = some false := by decide +kernel
theorem kb_list_int : kitB "list" "int" = some false := by decide +kernel
theorem kb_list_str : kitB "list" "str" = some false := by decide +kernel
theorem kb_list_list : kitB "list" "list" = some true := by decide +kernel
theorem kb_list_tuple : kitB "list" "tuple" = some false := by decide +kernel
theorem kb_tuple_bool : kitB "tuple" "bool" = some false := by decide +kernel
theorem kb_tuple_int : kitB "tuple" "int" = some false := by decide +kernel
theorem kb_tuple_str : kitB "tuple" "str" = some false := by decide +kernel
theorem kb_tuple_list : kitB "tuple" "list" = some false := by decide +kernel
theorem kb_tuple_tuple : kitB "tuple" "tuple" = some true := by decide +kernel
section
variable {P : Program} {w : World} {K : PySem.W.Frag} {mg : Str → Option Value} {base : Heap} {f : Addr} {fd : FuncData}
abbrev sSame : Stmt := top 21
theorem scSame : FnScope ["_law_got", "_law_due", "_law_k"] ["_law_got", "_law_due"] (defScope sSame) := ⟨rfl, rfl, rfl, by decide +kernel, rfl, by decide +kernel, by decide +kernel⟩
theorem ok_same (F : FnP K "_law_same" sSame f fd) (m : mg "_law_same" = some (.ref f)) (g_len : mg "len" = none) (g_isinstance : mg "isinstance" = none) (g_bool : mg "bool" = none) (g_int : mg "int" = none) (g_str : mg "str" = none) (g_list : mg "list" = none) (g_tuple : mg "tuple" = none)
    (g_all : mg "all" = none) (g_range : mg "range" = none) : ∀ d, FnOk P w K mg base CX0 d f fd ["_law_got", "_law_due"] (spSame K d)
  | 0 => ⟨fun _ _ _ _ h => by
      obtain ⟨u, v, _, h, _⟩ := h
      exact h.elim, fun _ _ _ _ _ _ _ _ _ _ _ _ _ h => by
      obtain ⟨u, v, _, h, _⟩ := h
      exact h.elim⟩
  | d + 1 => by
    have O__law_same : Own P w K mg base d "_law_same" ["_law_got", "_law_due"] (spSame K d) := own_of F m (ok_same F m g_len g_isinstance g_bool g_int g_str g_list g_tuple g_all g_range d) fun _ _ _ _ _ _ us hl => match us, hl with | [_, _], _ => rfl
    have nd := scSame.nd
    refine F.ok scSame (fun vs H Q E h => ?_) (fun cdv A outer s H vs Q E hr h => ⟨_, PSs.nox (pss_cons (ps_if (PW.pt (pw_or (pt_cmpR op_isN (pv 1) pe_non (nomark _)) (pw_or1 (pt_cmpR op_isN (pv 0) pe_non (nomark _))))) (pss_one (ps_ret (pe_and (pe_cmpR op_isN (pv 1) pe_non (nomark _)) (pe_one (pe_cmpR op_isN (pv 0) pe_non (nomark _)))))) pss_nil)
  (pss_cons (ps_if (PW.pt (pw_or (pt_val (pe_callB (r := rIsi K) call_isi (by rfl) g_isinstance (by decide +kernel) (pa_cons (pv 1) (pa_cons (pe_bltn (v := .ty "bool") (by rfl) g_bool (by decide +kernel) rfl) pa_nil)))) (pw_or1 (pt_val (pe_callB (r := rIsi K) call_isi (by rfl) g_isinstance (by decide +kernel) (pa_cons (pv 0) (pa_cons (pe_bltn (v := .ty "bool") (by rfl) g_bool (by decide +kernel) rfl) pa_nil))))))) (pss_one (ps_ret (pe_and (pe_callB (r := rIsi K) call_isi (by rfl) g_isinstance (by decide +kernel) (pa_cons (pv 1) (pa_cons (pe_bltn (v := .ty "bool") (by rfl) g_bool (by decide +kernel) rfl) pa_nil))) (pe_and (pe_callB (r := rIsi K) call_isi (by rfl) g_isinstance (by decide +kernel) (pa_cons (pv 0) (pa_cons (pe_bltn (v := .ty "bool") (by rfl) g_bool (by decide +kernel) rfl) pa_nil))) (pe_one (pe_cmpR op_eq (pv 0) (pv 1) (nomark _))))))) pss_nil)
  (pss_cons (ps_if (pt_val (pe_callB (r := rIsiT K) call_isiT (by rfl) g_isinstance (by decide +kernel) (pa_cons (pv 1) (pa_cons (pe_tup (pa_cons (pe_bltn (v := .ty "int") (by rfl) g_int (by decide +kernel) rfl) (pa_cons (pe_bltn (v := .ty "str") (by rfl) g_str (by decide +kernel) rfl) pa_nil))) pa_nil)))) (pss_one (ps_ret (pe_and (pe_cmpR op_eq (pe_callB (r := rIsi K) call_isi (by rfl) g_isinstance (by decide +kernel) (pa_cons (pv 0) (pa_cons (pe_bltn (v := .ty "int") (by rfl) g_int (by decide +kernel) rfl) pa_nil))) (pe_callB (r := rIsi K) call_isi (by rfl) g_isinstance (by decide +kernel) (pa_cons (pv 1) (pa_cons (pe_bltn (v := .ty "int") (by rfl) g_int (by decide +kernel) rfl) pa_nil))) (nomark _)) (pe_one (pe_cmpR op_eq (pv 0) (pv 1) (nomark _)))))) pss_nil)
  (pss_cons (ps_if (PW.pt (pw_or (pt_cmpR op_ne (pe_callB (r := rIsi K) call_isi (by rfl) g_isinstance (by decide +kernel) (pa_cons (pv 1) (pa_cons (pe_bltn (v := .ty "list") (by rfl) g_list (by decide +kernel) rfl) pa_nil))) (pe_callB (r := rIsi K) call_isi (by rfl) g_isinstance (by decide +kernel) (pa_cons (pv 0) (pa_cons (pe_bltn (v := .ty "list") (by rfl) g_list (by decide +kernel) rfl) pa_nil))) (nomark _)) (pw_or1 (pt_cmpR op_ne (pe_callB (r := rIsi K) call_isi (by rfl) g_isinstance (by decide +kernel) (pa_cons (pv 1) (pa_cons (pe_bltn (v := .ty "tuple") (by rfl) g_tuple (by decide +kernel) rfl) pa_nil))) (pe_callB (r := rIsi K) call_isi (by rfl) g_isinstance (by decide +kernel) (pa_cons (pv 0) (pa_cons (pe_bltn (v := .ty "tuple") (by rfl) g_tuple (by decide +kernel) rfl) pa_nil))) (nomark _))))) (pss_one (ps_ret pe_bl)) pss_nil)
  (pss_one (ps_ret (pe_and (pe_cmpR op_eq (pe_callB (r := Evl.rLenS K) call_len_seq (by rfl) g_len PySem.boot_len (pa_cons (pv 0) pa_nil)) (pe_callB (r := Evl.rLenS K) call_len_seq (by rfl) g_len PySem.boot_len (pa_cons (pv 1) pa_nil)) (nomark _)) (pe_one (pe_callB (r := rAll K) (cr_all rfl) (by rfl) g_all (by decide +kernel) (pa_cons (pe_lc (own := [("_law_k", 2)]) rfl nd (pi_range1 (by rfl) g_range (pa_cons (pe_callB (r := Evl.rLenS K) call_len_seq (by rfl) g_len PySem.boot_len (pa_cons (pv 1) pa_nil)) pa_nil)) (blkOk_by (N := ["_law_got", "_law_due", "_law_k"]) (sc := defScope (Hs.top 21)) (by decide +kernel)) (fun _ _ _ _ _ => (pg_name (i := 2) nd rfl (Or.inl rfl))) (fun _ _ _ _ _ => pts_nil) (fun _ _ _ _ _ => (Hs.pe_own O__law_same hr (by first | decide | omega) (by rfl) (pa_cons (pe_ix (r := rIx K) ix_seq (pv 0) (pv 2) (fun _ _ => rfl)) (pa_cons (pe_ix (r := rIx K) ix_seq (pv 1) (pv 2) (fun _ _ => rfl)) pa_nil))))) pa_nil)))))))))), ?_⟩)
    · obtain ⟨u, v, rfl, _⟩ := h
      rfl
    · obtain ⟨u, v, rfl, h, k⟩ := h
      rcases h with ⟨rfl, hf⟩ | ⟨a, b, xs, ys, rfl, rfl, hq, hlen, hz, hi⟩
      · cases u with
        | non =>
          refine q_when (et_or (et_test (ev_op (ev_var rfl) ev_c (rv_val fun H1 _ Q q => ⟨rfl, q⟩))) (fun _ => et_test (ev_op (ev_var rfl) ev_c (rv_val fun H1 _ Q q => ⟨rfl, q⟩)))) (fun ht H1 e1 => ?_) (fun ht => by simp at ht)
          exact s_ret (ev_is (ev_andV (ev_op (ev_var rfl) ev_c (rv_val fun H1 _ Q q => ⟨rfl, q⟩)) (fun _ => ev_op (ev_var rfl) ev_c (rv_val fun H1 _ Q q => ⟨rfl, q⟩))) (by simp)) fun H2 e2 => k _ (e1.trans e2)
        | bl y =>
          refine q_when (b := false) (et_is (et_or (et_test (ev_op (ev_var rfl) ev_c (rv_val fun H1 _ Q q => ⟨rfl, q⟩))) (fun _ => et_test (ev_op (ev_var rfl) ev_c (rv_val fun H1 _ Q q => ⟨rfl, q⟩)))) (by simp)) (fun ht => Bool.noConfusion ht) (fun _ H1 e1 => ?_)
          refine q_when (b := true) (et_is (et_or (et_B (ev_isi (ev_var rfl) ty_bl kb_bool_bool)) (fun _ => et_B (ev_isi (ev_var rfl) ty_bl kb_bool_bool))) (by simp)) (fun _ H2 e2 => ?_) (fun ht => Bool.noConfusion ht)
          exact s_ret (ev_is (ev_andV (ev_isi (ev_var rfl) ty_bl kb_bool_bool) (fun _ => ev_andV (ev_isi (ev_var rfl) ty_bl kb_bool_bool) (fun _ => ev_op (ev_var rfl) (ev_var rfl) (rv_eq rfl)))) (by simp)) fun H3 e3 => k _ ((e1.trans e2).trans e3)
        | int i =>
          refine q_when (b := false) (et_is (et_or (et_test (ev_op (ev_var rfl) ev_c (rv_val fun H1 _ Q q => ⟨rfl, q⟩))) (fun _ => et_test (ev_op (ev_var rfl) ev_c (rv_val fun H1 _ Q q => ⟨rfl, q⟩)))) (by simp)) (fun ht => Bool.noConfusion ht) (fun _ H1 e1 => ?_)
          refine q_when (b := false) (et_is (et_or (et_B (ev_isi (ev_var rfl) ty_int kb_int_bool)) (fun _ => et_B (ev_isi (ev_var rfl) ty_int kb_int_bool))) (by simp)) (fun ht => Bool.noConfusion ht) (fun _ H2 e2 => ?_)
          refine q_when (b := true) (et_is (et_B (ev_isi2 (ev_var rfl) ty_int kb_int_int kb_int_str)) (by simp)) (fun _ H3 e3 => ?_) (fun ht => Bool.noConfusion ht)
          exact s_ret (ev_is (ev_andV (ev_op (ev_isi (ev_var rfl) ty_int kb_int_int) (ev_isi (ev_var rfl) ty_int kb_int_int) (rv_eq rfl)) (fun _ => ev_op (ev_var rfl) (ev_var rfl) (rv_eq rfl))) (by simp)) fun H4 e4 => k _ (((e1.trans e2).trans e3).trans e4)
        | str x =>
          refine q_when (b := false) (et_is (et_or (et_test (ev_op (ev_var rfl) ev_c (rv_val fun H1 _ Q q => ⟨rfl, q⟩))) (fun _ => et_test (ev_op (ev_var rfl) ev_c (rv_val fun H1 _ Q q => ⟨rfl, q⟩)))) (by simp)) (fun ht => Bool.noConfusion ht) (fun _ H1 e1 => ?_)
          refine q_when (b := false) (et_is (et_or (et_B (ev_isi (ev_var rfl) ty_str kb_str_bool)) (fun _ => et_B (ev_isi (ev_var rfl) ty_str kb_str_bool))) (by simp)) (fun ht => Bool.noConfusion ht) (fun _ H2 e2 => ?_)
          refine q_when (b := true) (et_is (et_B (ev_isi2 (ev_var rfl) ty_str kb_str_int kb_str_str)) (by simp)) (fun _ H3 e3 => ?_) (fun ht => Bool.noConfusion ht)
          exact s_ret (ev_is (ev_andV (ev_op (ev_isi (ev_var rfl) ty_str kb_str_int) (ev_isi (ev_var rfl) ty_str kb_str_int) (rv_eq rfl)) (fun _ => ev_op (ev_var rfl) (ev_var rfl) (rv_eq rfl))) (by simp)) fun H4 e4 => k _ (((e1.trans e2).trans e3).trans e4)
        | _ => cases hf
      · have ta : ∀ {H' : Hp}, Ex H H' → (Ty K H' (.ref a) "list" ∧ Ty K H' (.ref b) "list") ∨ (Ty K H' (.ref a) "tuple" ∧ Ty K H' (.ref b) "tuple") := fun {H'} e => by
          rcases hq with ⟨p, q⟩ | ⟨p, q⟩
          · exact .inl ⟨ty_l (ex_l e p), ty_l (ex_l e q)⟩
          · exact .inr ⟨ty_t (ex_t e p), ty_t (ex_t e q)⟩
        have qa : ∀ {H' : Hp}, Ex H H' → SqL K H' a xs ∨ SqT K H' a xs := fun {H'} e => hq.imp (fun h => ex_l e h.1) (fun h => ex_t e h.1)
        have qb : ∀ {H' : Hp}, Ex H H' → SqL K H' b ys ∨ SqT K H' b ys := fun {H'} e => hq.imp (fun h => ex_l e h.2) (fun h => ex_t e h.2)
        refine q_when (b := false) (et_is (et_or (et_test (ev_op (ev_var rfl) ev_c (rv_val fun H1 _ Q q => ⟨rfl, q⟩))) (fun _ => et_test (ev_op (ev_var rfl) ev_c (rv_val fun H1 _ Q q => ⟨rfl, q⟩)))) (by simp)) (fun ht => Bool.noConfusion ht) (fun _ H1 e1 => ?_)
        have t2 : ∀ {σ : L2.St} {H' : Hp}, σ[0]? = some (some (.ref a)) → σ[1]? = some (some (.ref b)) → Ex H H' → Ev (tCB (rIsi K) (tCons (tVar 1) (tCons (tC (.ty "bool")) tNil))) σ H' (.bl false) ∧ Ev (tCB (rIsi K) (tCons (tVar 0) (tCons (tC (.ty "bool")) tNil))) σ H' (.bl false) ∧
            Ev (tCB (rIsiT K) (tCons (tVar 1) (tCons (tTup (tCons (tC (.ty "int")) (tCons (tC (.ty "str")) tNil))) tNil))) σ H' (.bl false) ∧
            ∃ b1 b2, Ev (tCB (rIsi K) (tCons (tVar 1) (tCons (tC (.ty "list")) tNil))) σ H' (.bl b1) ∧ Ev (tCB (rIsi K) (tCons (tVar 0) (tCons (tC (.ty "list")) tNil))) σ H' (.bl b1) ∧ Ev (tCB (rIsi K) (tCons (tVar 1) (tCons (tC (.ty "tuple")) tNil))) σ H' (.bl b2) ∧ Ev (tCB (rIsi K) (tCons (tVar 0) (tCons (tC (.ty "tuple")) tNil))) σ H' (.bl b2) := fun {σ H'} h0 h1 e => by
          rcases ta e with ⟨p, q⟩ | ⟨p, q⟩
          · exact ⟨ev_isi (ev_var h1) q kb_list_bool, ev_isi (ev_var h0) p kb_list_bool, ev_isi2 (ev_var h1) q kb_list_int kb_list_str, true, false, ev_isi (ev_var h1) q kb_list_list, ev_isi (ev_var h0) p kb_list_list, ev_isi (ev_var h1) q kb_list_tuple, ev_isi (ev_var h0) p kb_list_tuple⟩
          · exact ⟨ev_isi (ev_var h1) q kb_tuple_bool, ev_isi (ev_var h0) p kb_tuple_bool, ev_isi2 (ev_var h1) q kb_tuple_int kb_tuple_str, false, true, ev_isi (ev_var h1) q kb_tuple_list, ev_isi (ev_var h0) p kb_tuple_list, ev_isi (ev_var h1) q kb_tuple_tuple, ev_isi (ev_var h0) p kb_tuple_tuple⟩
        obtain ⟨i1, i2, _⟩ := t2 (σ := [some (.ref a), some (.ref b), none]) rfl rfl e1
        refine q_when (b := false) (et_is (et_or (et_B i1) (fun _ => et_B i2)) (by simp)) (fun ht => Bool.noConfusion ht) (fun _ H2 e2 => ?_)
        obtain ⟨_, _, i3, _⟩ := t2 (σ := [some (.ref a), some (.ref b), none]) rfl rfl (e1.trans e2)
        refine q_when (b := false) (et_B i3) (fun ht => Bool.noConfusion ht) (fun _ H3 e3 => ?_)
        have e03 := (e1.trans e2).trans e3
        obtain ⟨_, _, _, b1, b2, j1, j2, j3, j4⟩ := t2 (σ := [some (.ref a), some (.ref b), none]) rfl rfl e03
        refine q_when (b := false) (et_is (et_or (et_test (ev_op j1 j2 (rv_ne rfl))) (fun _ => et_test (ev_op j3 j4 (rv_ne rfl)))) (by simp)) (fun ht => Bool.noConfusion ht) (fun _ H4 e4 => ?_)
        have e04 := e03.trans e4
        refine s_ret (ev_is (ev_andV (ev_op (ev_lenQ (ev_var rfl) (qa e04)) (ev_lenQ (ev_var rfl) (qb e04)) (rv_eq rfl)) (fun _ => ev_allT (n := ys.length) ?_)) (by simp [hlen])) fun H5 e5 => k _ (e04.trans e5)
        refine el_lcR1 (n := (ys.length : Int)) (fun _ => true) (fun _ => V.bl true) (ea_cons (ev_lenQ (ev_var rfl) (qb e04)) ea_nil) (by omega) (fun x => rfl) (fun i H6 e6 hi6 H7 e7 Q' q' => q' H7 (Ex.refl H7)) (fun i H6 e6 hi6 _ => ?_)
        have hiy : i < ys.length := by omega
        have hix : i < xs.length := by omega
        have gx : xs[i]? = some xs[i] := List.getElem?_eq_getElem hix
        have gy : ys[i]? = some ys[i] := List.getElem?_eq_getElem hiy
        have e06 := e04.trans e6
        exact ev_call (ea_cons (ev_op (ev_var rfl) (ev_var rfl) (rv_ixQ (qa e06) (atI_nat gx))) (ea_cons (ev_op (ev_var rfl) (ev_var rfl) (rv_ixQ (qb e06) (atI_nat gy))) ea_nil)) fun H7 e7 Q' q' E' => ⟨_, _, rfl, (hi i _ _ gx gy).ext (e06.trans e7), q'⟩
end
end Hs
namespace Hs
open PySem PySem.Spec PyProof.Rows L2 Evl
/-! ### the bag and what stands beside it -/
theorem bag_ne {H : Hp} {b l p : Addr} {ns : List Int} {n : Nat} (B : BagAt H b l ns n) (hp : H p = none) : p ≠ b := fun z => by
  obtain ⟨i, y, s, c, h, _⟩ := B.ex
  rw [← z, hp] at h
  cases h
theorem bag_lst {H : Hp} {b l : Addr} {ns : List Int} {n : Nat} (B : BagAt H b l ns n) : ∃ xs, H b = some (.lst xs) := by
  obtain ⟨⟨i, z, s, c, h1, _⟩, _⟩ := B
  exact ⟨_, h1⟩
theorem bag_upd {H : Hp} {b l a : Addr} {ns : List Int} {n : Nat} {o : HO} (B : BagAt H b l ns n) (h1 : b ≠ a) (h2 : l ≠ a) : BagAt (upd H a o) b l ns n := by
  obtain ⟨⟨i, z, s, c, q1, q2, q3, q4, q5⟩, q6, q7⟩ := B
  exact ⟨⟨i, z, s, c, by rw [upd_ne h1]; exact q1, q2, q3, q4, q5⟩, by rw [upd_ne h2]; exact q6, q7⟩
theorem But.fresh {H H' : Hp} {b l p : Addr} {ns : List Int} {n : Nat} (k : But H H' b) (B : BagAt H' b l ns n) (hp : H' p = none) : H p = none := by
  cases h : H p with
  | none => rfl
  | some o =>
    have := k p o h (bag_ne B hp)
    rw [hp] at this
    cases this
theorem But.tup {H H' : Hp} {b l p : Addr} {ns : List Int} {n : Nat} {xs : List V} (k : But H H' b) (B : BagAt H b l ns n) (h : H p = some (.tup xs)) : H' p = some (.tup xs) := by
  obtain ⟨ys, hb⟩ := bag_lst B
  refine k _ _ h fun z => ?_
  rw [z, hb] at h
  cases h
end Hs
namespace Hs
open PySem PySem.Spec PyProof.Rows L2 Evl
/-! ### one of a list, a block that is drawn -/
def spOne (K : PySem.W.Frag) : Sp := fun vs H Q _ => ∃ (b l a : Addr) (ns : List Int) (n : Nat) (xs : List V), vs = [.ref b, .ref a] ∧ BagAt H b l ns n ∧ n < 900000 ∧ H a = some (.lst xs) ∧ a ≠ b ∧ 0 < xs.length ∧ xs.length ≤ 1000 ∧
  ∀ (v : V) (H' : Hp), v ∈ xs → BagAt H' b l ns (n + 1) → But H H' b → Q v H'
section
variable {P : Program} {w : World} {K : PySem.W.Frag} {mg : Str → Option Value} {base : Heap} {f : Addr} {fd : FuncData}
abbrev sOne : Stmt := top 20
theorem scOne : FnScope ["_law_bag_here", "_law_some"] ["_law_bag_here", "_law_some"] (defScope sOne) := ⟨rfl, rfl, rfl, by decide +kernel, rfl, by decide +kernel, by decide +kernel⟩
theorem ok_one (F : FnP K "_law_one" sOne f fd) (O__law_pull : Own P w K mg base 1 "_law_pull" ["_law_bag_here", "_law_many"] spPull) (g_len : mg "len" = none) : FnOk P w K mg base CX0 2 f fd ["_law_bag_here", "_law_some"] (spOne K) := by
  have nd := scOne.nd
  refine F.ok scOne (fun vs H Q E h => ?_) (fun cdv A outer s H vs Q E hr h => ⟨_, PSs.nox (pss_one (ps_ret (pe_ix (r := rIxL K) ix_list (pv 1) (Hs.pe_own O__law_pull hr (by first | decide | omega) (by rfl) (pa_cons (pv 0) (pa_cons (pe_callB (r := Evl.rLenS K) call_len_seq (by rfl) g_len PySem.boot_len (pa_cons (pv 1) pa_nil)) pa_nil))) (fun _ _ => rfl)))), ?_⟩)
  · obtain ⟨b, l, a, ns, n, xs, rfl, _⟩ := h
    rfl
  · obtain ⟨b, l, a, ns, n, xs, rfl, B, hn, ha, hne, h0, h1, k⟩ := h
    refine ⟨_, rfl, _, rfl, _, rfl, a, xs, rfl, .inl (sq_of ha), b, l, ns, n, _, rfl, B, by omega, by omega, by omega, fun v H1 v0 v1 B1 b1 => ?_⟩
    have hi : v.toNat < xs.length := by omega
    have hat : atI xs v = some xs[v.toNat] := by
      have e : ((v.toNat : Nat) : Int) = v := by omega
      have q := atI_nat (xs := xs) (j := v.toNat) (List.getElem?_eq_getElem hi)
      rw [e] at q
      exact q
    exact ⟨a, xs, v, _, rfl, rfl, sq_of (b1 _ _ ha hne), hat, k _ H1 (List.getElem_mem hi) B1 b1⟩
end
end Hs
namespace Hs
open PySem PySem.Spec PyProof.Rows L2 Evl
/-! ### [e for k in range(n)], each turn draws -/
theorem lc_drawR {te : TE} {ta : TA} {σ : L2.St} {H : Hp} {Q : VK} {b l : Addr} {ns : List Int} {N c M j : Nat} {vs : List Nat} (C : Nat → Prop) (G : List V → Hp → Prop) (gk : ∀ xs H1 H2, Kp H1 H2 → G xs H1 → G xs H2) (hM : M ≤ 1000)
    (hw : ∀ v, wipe ((wipe σ vs).set j (some v)) vs = wipe σ vs) (hta : ∀ R : List V → Hp → Prop, (∀ (n : Nat) H1, n ≤ M → C n → BagAt H1 b l ns N → But H H1 b → R [.int (n : Int)] H1) → ta σ H R) (g0 : ∀ H', G [] H')
    (hs : ∀ (i : Nat) (xs : List V) (H' : Hp) (Q' : VK), i < M → But H H' b → BagAt H' b l ns (N + i * c) → (∀ v H2, BagAt H2 b l ns (N + (i + 1) * c) → But H' H2 b → (∀ H3, Kp H2 H3 → G xs H3 → G (xs ++ [v]) H3) → Q' v H2) → te ((wipe σ vs).set j (some (.int (0 + (i : Nat))))) H' Q')
    (k : ∀ (D : Addr) (xs : List V) (H' : Hp), H D = none → H' D = some (.lst xs) → xs.length ≤ M → C xs.length → G xs H' → BagAt H' b l ns (N + xs.length * c) → But H H' b → Q (.ref D) H') :
    tLc (iRng1 ta) (gName j) tYes te vs σ H Q := by
  refine hta _ fun n H1 hn hC B k1 => ⟨(n : Int), rfl, by omega, by omega, fun Dl hD => ?_⟩
  have nDb := bag_ne B hD
  have nDl : Dl ≠ l := Ne.symm (ne_of_none B.ls hD)
  have hD0 : H Dl = none := But.fresh k1 B hD
  have en : (n : Int).toNat = n := Int.toNat_natCast n
  refine lc_range (lo := 0) (n := (n : Int).toNat) (fun i H' => ∃ xs, H' Dl = some (.lst xs) ∧ xs.length = i ∧ G xs H' ∧ BagAt H' b l ns (N + i * c) ∧ But H H' b) ⟨[], upd_same, rfl, g0 _, ?_, k1.ex (Ex.new hD)⟩ (fun i H' hi p => ⟨hw _, ?_⟩) (fun H' p => ?_)
  · rw [Nat.zero_mul]
    exact B.ext (Ex.new hD) (Nat.le_refl _)
  · obtain ⟨xs, hDl, hlen, hG, Bi, bi⟩ := p
    rw [en] at hi
    refine hs i xs H' _ (by omega) bi Bi fun v H2 B2 b2 g2 => ?_
    have hDl2 := b2 _ _ hDl nDb
    refine ⟨_, hDl2, sz_lt (by omega), xs ++ [v], upd_same, by rw [List.length_append, hlen] <;> rfl, ?_, bag_upd B2 (Ne.symm nDb) (Ne.symm nDl), fun a o ha hb => ?_⟩
    · have kp2 : Kp H2 (upd H2 Dl (.lst (xs ++ [v]))) := Kp.upd hDl2
      obtain ⟨ys, hbl⟩ := bag_lst Bi
      exact g2 _ kp2 (gk _ _ _ kp2 (gk _ _ _ (Kp.but hbl b2) hG))
    · rw [upd_ne (ne_of_none ha hD0)]
      exact b2 _ _ (bi _ _ ha hb) hb
  · obtain ⟨xs, hDl, hlen, hG, Bi, bi⟩ := p
    rw [en] at hlen Bi
    rw [← hlen] at Bi
    exact k Dl xs H' hD0 hDl (by omega) (by rw [hlen]; exact hC) hG Bi bi
end Hs
namespace Hs
open PySem PySem.Spec PyProof.Rows L2 Evl
/-! ### a number, a word, drawn -/
def spWideN : Sp := fun vs H Q _ => ∃ (b l : Addr) (ns : List Int) (n : Nat), vs = [.ref b] ∧ BagAt H b l ns n ∧ n < 800000 ∧ ∀ (z : Int) (H' : Hp), z.natAbs < 10 ^ 9 → BagAt H' b l ns (n + 4) → But H H' b → Q (.int z) H'
def wordsL : List Str := ["lamp", "post", "pane", "x", "Lamp", "9", "/", "many", "~!"]
def spWord : Sp := fun vs H Q _ => ∃ (b l : Addr) (ns : List Int) (n : Nat), vs = [.ref b] ∧ BagAt H b l ns n ∧ n < 800000 ∧ ∀ (x : Str) (H' : Hp), x ∈ wordsL → BagAt H' b l ns (n + 1) → But H H' b → Q (.str x) H'
theorem atI_get {xs : List V} {v : Int} (h0 : 0 ≤ v) (h : v < (xs.length : Int)) : ∃ x, atI xs v = some x ∧ x ∈ xs := by
  have hi : v.toNat < xs.length := by omega
  have q := atI_nat (xs := xs) (j := v.toNat) (List.getElem?_eq_getElem hi)
  rw [show ((v.toNat : Nat) : Int) = v by omega] at q
  exact ⟨_, q, List.getElem_mem hi⟩
section
variable {P : Program} {w : World} {K : PySem.W.Frag} {mg : Str → Option Value} {base : Heap} {f : Addr} {fd : FuncData}
abbrev sWideN : Stmt := top 22
theorem scWideN : FnScope ["_law_bag_here", "_law_number"] ["_law_bag_here"] (defScope sWideN) := ⟨rfl, rfl, rfl, by decide +kernel, rfl, by decide +kernel, by decide +kernel⟩
theorem ok_wideN (F : FnP K "_law_wide_number" sWideN f fd) (O__law_pull : Own P w K mg base 1 "_law_pull" ["_law_bag_here", "_law_many"] spPull) : FnOk P w K mg base CX0 2 f fd ["_law_bag_here"] spWideN := by
  have nd := scWideN.nd
  refine F.ok scWideN (fun vs H Q E h => ?_) (fun cdv A outer s H vs Q E hr h => ⟨_, PSs.nox (pss_cons (ps_set (i := 1) nd rfl (.inl rfl) (pe_ix (r := rIxL K) ix_list (pe_lst (pa_cons (Hs.pe_own O__law_pull hr (by first | decide | omega) (by rfl) (pa_cons (pv 0) (pa_cons pe_int pa_nil))) (pa_cons (Hs.pe_own O__law_pull hr (by first | decide | omega) (by rfl) (pa_cons (pv 0) (pa_cons (pe_op op_pow pe_int pe_int) pa_nil))) (pa_cons (pe_op op_sub (pe_op op_pow pe_int pe_int) pe_int) (pa_cons pe_int pa_nil))))) (Hs.pe_own O__law_pull hr (by first | decide | omega) (by rfl) (pa_cons (pv 0) (pa_cons pe_int pa_nil))) (fun _ _ => rfl)))
  (pss_one (ps_ret (pe_ix (r := rIxL K) ix_list (pe_lst (pa_cons (pv 1) (pa_cons (pe_op op_sub pe_int (pv 1)) pa_nil))) (Hs.pe_own O__law_pull hr (by first | decide | omega) (by rfl) (pa_cons (pv 0) (pa_cons pe_int pa_nil))) (fun _ _ => rfl))))), ?_⟩)
  · obtain ⟨b, l, ns, n, rfl, _⟩ := h
    rfl
  · obtain ⟨b, l, ns, n, rfl, B, hn, k⟩ := h
    refine ⟨_, rfl, b, l, ns, n, 10, rfl, B, by omega, by omega, by omega, fun v1 H1 p1 q1 B1 k1 => ?_⟩
    refine ⟨_, rfl, 10, 9, rfl, rfl, ⟨by decide, by decide, by decide⟩, b, l, ns, n + 1, _, rfl, B1, by omega, by decide, by decide, fun v2 H2 p2 q2 B2 k2 => ?_⟩
    refine ⟨10, 9, rfl, rfl, ⟨by decide, by decide, by decide⟩, _, 1, rfl, rfl, sz_of (by simp), fun p hp => ⟨_, rfl, b, l, ns, n + 1 + 1, 4, rfl, B2.ext (Ex.new hp) (Nat.le_refl _), by omega, by decide, by decide, fun v3 H3 p3 q3 B3 k3 => ?_⟩⟩
    have hq2 : v2 < 10 ^ 9 := q2
    have hv1 : ∀ z : Int, V.int z ∈ [V.int v1, .int v2, .int ((10 : Int) ^ (9 : Int).toNat - 1), .int 0] → z.natAbs < 10 ^ 9 := fun z hz => by
      simp only [List.mem_cons, V.int.injEq, List.not_mem_nil, or_false] at hz
      have h9 : (10 : Int) ^ (9 : Int).toNat = 1000000000 := by decide
      rw [h9] at hz
      rcases hz with rfl | rfl | rfl | rfl
      · omega
      · omega
      · decide
      · decide
    have hin : ∀ x : V, x ∈ [V.int v1, .int v2, .int ((10 : Int) ^ (9 : Int).toNat - 1), .int 0] → ∃ z, x = .int z := fun x hx => by
      simp only [List.mem_cons, List.not_mem_nil, or_false] at hx
      rcases hx with rfl | rfl | rfl | rfl <;> exact ⟨_, rfl⟩
    obtain ⟨x, hat, hx⟩ := atI_get (xs := [V.int v1, .int v2, .int ((10 : Int) ^ (9 : Int).toNat - 1), .int 0]) p3 q3
    obtain ⟨z, rfl⟩ := hin x hx
    have hz := hv1 z hx
    have hp3 := k3 _ _ upd_same (bag_ne B2 hp)
    refine ⟨p, _, v3, _, rfl, rfl, sq_of hp3, hat, ?_⟩
    refine ⟨_, rfl, _, rfl, 0, z, rfl, rfl, sz_of (by simp), fun p' hp' => ⟨_, rfl, b, l, ns, n + 1 + 1 + 1, 2, rfl, B3.ext (Ex.new hp') (Nat.le_refl _), by omega, by decide, by decide, fun v4 H4 p4 q4 B4 k4 => ?_⟩⟩
    have hp4 := k4 _ _ upd_same (bag_ne B3 hp')
    obtain ⟨x, hat2, hx2⟩ := atI_get (xs := [V.int z, .int (0 - z)]) p4 q4
    have kk : But H H4 b := (k1.trans (k2.ex (Ex.new hp))).trans ((k3.ex (Ex.new hp')).trans k4)
    simp only [List.mem_cons, List.not_mem_nil, or_false] at hx2
    rcases hx2 with rfl | rfl
    · exact ⟨p', _, v4, _, rfl, rfl, sq_of hp4, hat2, k _ H4 hz B4 kk⟩
    · exact ⟨p', _, v4, _, rfl, rfl, sq_of hp4, hat2, k _ H4 (by omega) B4 kk⟩
abbrev sWordL : Stmt := top 23
theorem scWordL : FnScope ["_law_bag_here"] ["_law_bag_here"] (defScope sWordL) := ⟨rfl, rfl, rfl, by decide +kernel, rfl, by decide +kernel, by decide +kernel⟩
theorem ok_wordL (F : FnP K "_law_word" sWordL f fd) (O__law_one : Own P w K mg base 2 "_law_one" ["_law_bag_here", "_law_some"] (spOne K)) : FnOk P w K mg base CX0 3 f fd ["_law_bag_here"] spWord := by
  have nd := scWordL.nd
  refine F.ok scWordL (fun vs H Q E h => ?_) (fun cdv A outer s H vs Q E hr h => ⟨_, PSs.nox (pss_one (ps_ret (Hs.pe_own O__law_one hr (by first | decide | omega) (by rfl) (pa_cons (pv 0) (pa_cons (pe_lst (pa_cons pe_str (pa_cons pe_str (pa_cons pe_str (pa_cons pe_str (pa_cons pe_str (pa_cons pe_str (pa_cons pe_str (pa_cons pe_str (pa_cons pe_str pa_nil)))))))))) pa_nil))))), ?_⟩)
  · obtain ⟨b, l, ns, n, rfl, _⟩ := h
    rfl
  · obtain ⟨b, l, ns, n, rfl, B, hn, k⟩ := h
    refine ⟨_, rfl, sz_of (by simp), fun a ha => ?_⟩
    have ea := Ex.new (o := .lst (wordsL.map V.str)) ha
    refine ⟨b, l, a, ns, n, wordsL.map V.str, rfl, B.ext ea (Nat.le_refl _), by omega, upd_same, bag_ne B ha, by decide, by decide, fun v H1 hv B1 k1 => ?_⟩
    obtain ⟨x, hx, rfl⟩ := List.mem_map.mp hv
    refine k x H1 hx B1 fun c o hc hb => k1 _ _ (ea _ _ hc) hb
end
end Hs
namespace Hs
open PySem PySem.Spec PyProof.Rows L2 Evl
abbrev rTupK (K : PySem.W.Frag) : List V → Hp → VK → Prop := fun xs H Q => ∃ p ys, xs = [V.ref p] ∧ ((SqL K H p ys ∧ ∀ l : Addr, H l = none → Q (V.ref l) (upd H l (.tup ys))) ∨ (SqT K H p ys ∧ Q (V.ref p) H))
theorem un1 {k : Nat} {A : Around} (r : Room k A) : A.units + 1 < cLine := by
  have := r.un
  omega
end Hs
namespace Hs
open PySem PySem.Spec PyProof.Rows L2 Evl
/-! ### a deed, drawn -/
def formsL : List (Str × Str) := [("lamp", "nnnnn"), ("post", "nnnn"), ("pane", "nnnns"), ("move", "wnnn"), ("switch", "n"), ("drop", "wn"), ("look", "nnnnn"), ("strike", "n"), ("settle", "nn")]
def words10 : List Str := ["lamp", "unsure", "post", "pane", "move", "switch", "drop", "look", "strike", "settle"]
def siftsL : List Str := ["", "r", "rgb", "gr", "zz"]
def WD.shape : WD → Prop
  | .plain w xs => (w = "pane" → xs.length = 5) ∧ (w = "move" ∨ w = "drop" → 1 ≤ xs.length)
  | .unsure _ => True
/-- numbers that the law draws -/
def NumL (xs : List V) : Prop := ∃ zs : List Int, xs = zs.map V.int ∧ ∀ z ∈ zs, z.natAbs < 10 ^ 9
theorem NumL.snoc {xs : List V} {z : Int} (h : NumL xs) (hz : z.natAbs < 10 ^ 9) : NumL (xs ++ [.int z]) := by
  obtain ⟨zs, rfl, h⟩ := h
  refine ⟨zs ++ [z], by rw [List.map_append] <;> rfl, fun y hy => ?_⟩
  rcases List.mem_append.mp hy with hy | hy
  · exact h y hy
  · rw [List.mem_singleton.mp hy]
    exact hz
inductive AllRd : List Nat → List V → Prop
  | nil : AllRd [] []
  | cons {c : Nat} {v : V} {cs : List Nat} {vs : List V} : RdOk c (thS v) v → AllRd cs vs → AllRd (c :: cs) (v :: vs)
theorem AllRd.len : ∀ {cs : List Nat} {vs : List V}, AllRd cs vs → cs.length = vs.length
  | _, _, .nil => rfl
  | _, _, .cons _ h => congrArg (· + 1) (AllRd.len h)
theorem AllRd.at_ : ∀ {cs : List Nat} {vs : List V}, AllRd cs vs → ∀ (i c : Nat) (v : V), cs[i]? = some c → vs[i]? = some v → RdOk c (thS v) v
  | _, _, .nil, _, _, _, h, _ => by cases h
  | _, _, .cons h _, 0, _, _, hc, hv => by
    cases hc
    cases hv
    exact h
  | _, _, .cons _ h, i + 1, c, v, hc, hv => AllRd.at_ h i c v hc hv
theorem rd_int {z : Int} (hz : z.natAbs < 10 ^ 9) : RdOk 110 (thS (.int z)) (.int z) := .inl ⟨rfl, z, rfl, rfl, hz⟩
theorem AllRd.ints : ∀ {zs : List Int}, (∀ z ∈ zs, z.natAbs < 10 ^ 9) → AllRd (List.replicate zs.length 110) (zs.map V.int)
  | [], _ => .nil
  | z :: zs, h => .cons (rd_int (h z List.mem_cons_self)) (AllRd.ints fun y hy => h y (List.mem_cons_of_mem _ hy))
theorem AllRd.app : ∀ {cs ds : List Nat} {vs us : List V}, AllRd cs vs → AllRd ds us → AllRd (cs ++ ds) (vs ++ us)
  | _, _, _, _, .nil, h => h
  | _, _, _, _, .cons h t, h2 => .cons h (AllRd.app t h2)
theorem fit_of {K : PySem.W.Frag} {dF : Addr} {w fm : Str} {tk : Tok} {xs : List V} (hw : w ≠ "") (hn : PySem.W.nsIn K dF w = some (some (.str fm tk))) (ha : fm.cps.all (· < 128) = true) (h : AllRd fm.cps.toList xs) : (WD.plain w xs).fit K dF := by
  refine ⟨hw, fm, tk, hn, ha, ?_, fun i c v hc hv => ?_⟩
  · rw [← h.len, Array.length_toList]
  · refine h.at_ i c v ?_ hv
    rw [Array.getElem?_toList]
    exact hc
theorem th_int {z : Int} (hz : z.natAbs < 10 ^ 9) : ThOk (.int z) := .inl ⟨z, rfl, hz⟩
theorem words_ok : ∀ w ∈ words10, ThOk (.str w) ∧ w ≠ "" ∧ w ≠ "many" := by
  intro w hw
  have z : ∀ w ∈ words10, (w.length ≤ 20 ∧ 32 ∉ TL.tl w ∧ 10 ∉ TL.tl w) ∧ w ≠ "" ∧ w ≠ "many" := by decide +kernel
  exact ⟨.inr ⟨w, rfl, (z w hw).1⟩, (z w hw).2⟩
theorem sorts_ok : ∀ w ∈ wordsL, ThOk (.str w) ∧ RdOk 119 (thS (.str w)) (.str w) := by
  intro w hw
  have z : ∀ w ∈ wordsL, (w.length ≤ 20 ∧ 32 ∉ TL.tl w ∧ 10 ∉ TL.tl w) ∧ w ≠ "" := by decide +kernel
  obtain ⟨h1, h2⟩ := z w hw
  have e : thS (.str w) = w := if_neg h2
  refine ⟨.inr ⟨w, rfl, h1⟩, .inr ⟨by decide, by rw [e]; exact h2, ?_⟩⟩
  rw [e, if_neg (fun q => absurd q.1 (by decide))]
theorem sifts_ok : ∀ w ∈ siftsL, ThOk (.str w) ∧ RdOk 115 (thS (.str w)) (.str w) := by
  intro w hw
  have z : ∀ w ∈ siftsL, (w.length ≤ 20 ∧ 32 ∉ TL.tl w ∧ 10 ∉ TL.tl w) ∧ (if w = "" then ("-" : Str) else w) ≠ "" ∧ w = (if (if w = "" then ("-" : Str) else w) = ("-" : Str) then ("" : Str) else (if w = "" then ("-" : Str) else w)) := by decide +kernel
  obtain ⟨h1, h2, h3⟩ := z w hw
  refine ⟨.inr ⟨w, rfl, h1⟩, .inr ⟨by decide, h2, ?_⟩⟩
  show V.str w = .str (if (115 : Nat) = 115 ∧ (if w = "" then ("-" : Str) else w) = ("-" : Str) then ("" : Str) else (if w = "" then ("-" : Str) else w))
  simp only [true_and]
  exact congrArg V.str h3
theorem eu_go {te : TE} {σ : L2.St} {H : Hp} {xs : List V} {Q : VK} (h : EvU te σ H xs) (k : ∀ p H1, H p = none → Ex H H1 → H1 p = some (.tup xs) → Q (.ref p) H1) : te σ H Q := h H (Ex.refl _) Q k
theorem eu_tupOf {K : PySem.W.Frag} {t : TE} {σ : L2.St} {H : Hp} {xs : List V} (h : EvL t σ H xs) : EvU (tCB (rTupK K) (tCons t tNil)) σ H xs := fun H1 e Q q =>
  h H1 e _ fun D H2 nD e2 hD => ⟨D, xs, rfl, .inl ⟨sq_of hD, fun l hl => q l _ (fresh_back e2 hl) (e2.trans (Ex.new hl)) upd_same⟩⟩
theorem eu_catT {K : PySem.W.Frag} {ta tb : TE} {σ : L2.St} {H : Hp} {xs ys : List V} (h1 : EvU ta σ H xs) (h2 : EvU tb σ H ys) (hx : xs ≠ []) (hy : ys ≠ []) (hz : xs.length + ys.length ≤ 100000) : EvU (tOp (rCatT K) ta tb) σ H (xs ++ ys) := fun H1 e Q q =>
  h1 H1 e _ fun p1 H2 n2 e2 hp1 => h2 H2 (e.trans e2) _ fun p2 H3 n3 e3 hp2 => ⟨p1, p2, _, _, rfl, rfl, st_of (e3 _ _ hp1), st_of hp2, hx, sz_of hz, fun z => absurd z hy, fun _ p hp => q p _ (fresh_back (e2.trans e3) hp) ((e2.trans e3).trans (Ex.new hp)) upd_same⟩
def spWideD (K : PySem.W.Frag) (dF : Addr) : Sp := fun vs H Q _ => ∃ (b l : Addr) (ns : List Int) (n : Nat), vs = [.ref b] ∧ BagAt H b l ns n ∧ n < 700000 ∧
  ∀ (p : Addr) (d : WD) (H' : Hp), d.ok → d.fit K dF → d.shape → DeedV K H' p d → BagAt H' b l ns (n + 200) → But H H' b → Q (.ref p) H'
end Hs
namespace Hs
open PySem PySem.Spec PyProof.Rows L2 Evl
theorem q_te {te : TE} {i : Nat} {tz : TS} {D : Ends} {σ : L2.St} {H : Hp} (h : te σ H (fun v H1 => tz D (σ.set i (some v)) H1)) : tSeq (tAsg te (gName i)) tz D σ H := h
theorem tup_te {K : PySem.W.Frag} {t : TE} {σ : L2.St} {H : Hp} {Q : VK} (h : t σ H (fun v H1 => rTupK K [v] H1 Q)) : tCB (rTupK K) (tCons t tNil) σ H Q := h
def GRows (K : PySem.W.Frag) (xs : List V) (H : Hp) : Prop := ∃ (ps : List Addr) (rows : List (List Int)), xs = ps.map V.ref ∧ ps.length = rows.length ∧ (∀ r ∈ rows, r.length = 5 ∧ ∀ n ∈ r, n.natAbs < 10 ^ 9) ∧ ∀ (i : Nat) (p : Addr) (r : List Int), ps[i]? = some p → rows[i]? = some r → SqT K H p (r.map V.int)
theorem GRows.snoc {K : PySem.W.Frag} {xs : List V} {H : Hp} {t : Addr} {ys : List V} (h : GRows K xs H) (hy : NumL ys) (l5 : ys.length = 5) (ht : SqT K H t ys) : GRows K (xs ++ [.ref t]) H := by
  obtain ⟨ps, rows, rfl, h1, h2, h3⟩ := h
  obtain ⟨zs, rfl, hz⟩ := hy
  refine ⟨ps ++ [t], rows ++ [zs], by rw [List.map_append] <;> rfl, by rw [List.length_append, List.length_append, h1] <;> rfl, fun r hr => ?_, fun i p r hp hr => ?_⟩
  · rcases List.mem_append.mp hr with hr | hr
    · exact h2 r hr
    · rw [List.mem_singleton.mp hr]
      exact ⟨by rwa [List.length_map] at l5, hz⟩
  · by_cases hi : i < ps.length
    · rw [List.getElem?_append_left hi] at hp
      rw [List.getElem?_append_left (by omega)] at hr
      exact h3 i p r hp hr
    · rw [List.getElem?_append_right (by omega)] at hp
      rw [List.getElem?_append_right (by omega), ← h1] at hr
      have e0 : i - ps.length = 0 := by
        have : i - ps.length < 1 := (List.getElem?_eq_some_iff.mp hp).1
        omega
      rw [e0] at hp hr
      cases hp
      cases hr
      exact ht
theorem GRows.kp {K : PySem.W.Frag} {xs : List V} {H H' : Hp} (e : Kp H H') (h : GRows K xs H) : GRows K xs H' := by
  obtain ⟨ps, rows, h0, h1, h2, h3⟩ := h
  exact ⟨ps, rows, h0, h1, h2, fun i p r hp hr => e.sqt (h3 i p r hp hr)⟩
def dictL : List (Key × V) := [(.inr "lamp", .int 5), (.inr "post", .int 4), (.inr "switch", .int 1), (.inr "look", .int 5), (.inr "strike", .int 1), (.inr "settle", .int 2)]
section
variable {P : Program} {w : World} {K : PySem.W.Frag} {mg : Str → Option Value} {base : Heap} {f dF : Addr} {fd : FuncData}
/-- five numbers, drawn in a comprehension -/
theorem lc_nums {σ : L2.St} {H : Hp} {Q : VK} {b l : Addr} {ns : List Int} {N j i0 : Nat} {vs : List Nat} (hw : ∀ v, wipe ((wipe σ vs).set j (some v)) vs = wipe σ vs) (hb : ∀ v, ((wipe σ vs).set j (some v))[i0]? = some (some (.ref b))) (B : BagAt H b l ns N) (hN : N < 799900)
    (k : ∀ (D : Addr) (xs : List V) (H' : Hp), H D = none → H' D = some (.lst xs) → xs.length = 5 → NumL xs → BagAt H' b l ns (N + 20) → But H H' b → Q (.ref D) H') : tLc (iRng1 (tCons (tC (.int 5)) tNil)) (gName j) tYes (tCall spWideN [] E0 (tCons (tVar i0) tNil)) vs σ H Q := by
  refine lc_drawR (M := 5) (c := 4) (N := N) (C := fun n => n = 5) (G := fun xs _ => NumL xs) (fun _ _ _ _ h => h) (by decide) hw (fun R r => r 5 H (by decide) rfl B But.refl) (fun _ => ⟨[], rfl, fun _ h => by cases h⟩) (fun i xs H' Q' hi bt Bi kq => ?_) (fun D xs H' nD hD hl hc hG B' b' => k D xs H' nD hD hc hG (by rw [hc] at B'; exact B') b')
  refine ⟨_, hb _, b, l, ns, N + i * 4, rfl, Bi, by omega, fun z H2 hz B2 b2 => kq (.int z) H2 ?_ b2 fun H3 _ g => g.snoc hz⟩
  rw [show N + (i + 1) * 4 = N + i * 4 + 4 by omega]
  exact B2
abbrev sWideD : Stmt := top 24
theorem scWideD : FnScope ["_law_bag_here", "_law_word_here", "_law_some", "_law_rows", "_law_many", "_law_k", "_law_at"] ["_law_bag_here"] (defScope sWideD) := ⟨rfl, rfl, rfl, by decide +kernel, rfl, by decide +kernel, by decide +kernel⟩
theorem ok_wideD (F : FnP K "_law_wide_deed" sWideD f fd) (TF : ∀ x ∈ formsL, ∃ tk, PySem.W.nsIn K dF x.1 = some (some (.str x.2 tk))) (O__law_pull : Own P w K mg base 1 "_law_pull" ["_law_bag_here", "_law_many"] spPull) (O__law_one : Own P w K mg base 2 "_law_one" ["_law_bag_here", "_law_some"] (spOne K)) (O__law_wide_number : Own P w K mg base 2 "_law_wide_number" ["_law_bag_here"] spWideN) (O__law_word : Own P w K mg base 3 "_law_word" ["_law_bag_here"] spWord) (g_range : mg "range" = none) (g_tuple : mg "tuple" = none) : FnOk P w K mg base CX0 4 f fd ["_law_bag_here"] (spWideD K dF) := by
  have nd := scWideD.nd
  refine F.ok scWideD (fun vs H Q E h => ?_) (fun cdv A outer s H vs Q E hr h => ⟨_, PSs.nox (pss_cons (ps_set (i := 1) nd rfl (.inl rfl) (pe_lst (pa_cons pe_str (pa_cons pe_str (pa_cons pe_str (pa_cons pe_str (pa_cons pe_str (pa_cons pe_str (pa_cons pe_str (pa_cons pe_str (pa_cons pe_str (pa_cons pe_str pa_nil))))))))))))
  (pss_cons (ps_set (i := 1) nd rfl (.inl rfl) (pe_ix (r := rIxL K) ix_list (pv 1) (Hs.pe_own O__law_pull hr (by first | decide | omega) (by rfl) (pa_cons (pv 0) (pa_cons pe_int pa_nil))) (fun _ _ => rfl)))
  (pss_cons (ps_setLc (i := 2) (own := [("_law_k", 5)]) rfl nd rfl rfl (sw_true rfl rfl rfl (by decide +kernel)) (pi_range1 (by rfl) g_range (pa_cons pe_int pa_nil)) (blkOk_by (N := ["_law_bag_here", "_law_word_here", "_law_some", "_law_rows", "_law_many", "_law_k", "_law_at"]) (sc := defScope (Hs.top 24)) (by decide +kernel)) (fun _ _ _ _ _ => (pg_name (i := 5) nd rfl (Or.inl rfl))) (fun _ _ _ _ _ => pts_nil) (fun _ _ _ _ _ => (Hs.pe_own O__law_wide_number hr (by first | decide | omega) (by rfl) (pa_cons (pv 0) pa_nil))))
  (pss_cons (ps_if (pt_cmpR op_eq (pv 1) pe_str (nomark _)) (pss_cons (ps_setLc (i := 3) (own := [("_law_k", 5)]) rfl nd rfl rfl (sw_true rfl rfl rfl (by decide +kernel)) (pi_range1 (by rfl) g_range (pa_cons (pe_op op_add pe_int (Hs.pe_own O__law_pull hr (by first | decide | omega) (by rfl) (pa_cons (pv 0) (pa_cons pe_int pa_nil)))) pa_nil)) (blkOk_by (N := ["_law_bag_here", "_law_word_here", "_law_some", "_law_rows", "_law_many", "_law_k", "_law_at"]) (sc := defScope (Hs.top 24)) (by decide +kernel)) (fun _ _ _ _ _ => (pg_name (i := 5) nd rfl (Or.inl rfl))) (fun _ _ _ _ _ => pts_nil) (fun _ _ _ _ _ => (pe_callTy (T := "tuple") (r := Hs.rTupK K) call_tuple_of (by rfl) g_tuple (by decide +kernel) (pa_cons (by exact (pe_lc (own := [("_law_at", 6)]) rfl nd (pi_range1 (by rfl) g_range (pa_cons pe_int pa_nil)) (blkOk_by (N := ["_law_bag_here", "_law_word_here", "_law_some", "_law_rows", "_law_many", "_law_k", "_law_at"]) (by rfl)) (fun _ _ _ _ _ => (pg_name (i := 6) nd rfl (Or.inl rfl))) (fun _ _ _ _ _ => pts_nil) (fun _ _ _ _ _ => (Hs.pe_own O__law_wide_number hr (by first | decide | omega) (by rfl) (pa_cons (pv 0) pa_nil))))) pa_nil))))
  (pss_one (ps_ret (pe_tup (pa_cons (pv 1) (pa_cons (pe_callTy call_tuple_of (by rfl) g_tuple (by decide +kernel) (pa_cons (pv 3) pa_nil)) pa_nil)))))) pss_nil)
  (pss_cons (ps_if (pt_cmpR op_eq (pv 1) pe_str (nomark _)) (pss_one (ps_ret (pe_op (r := rCatT K) op_catT (pe_op (r := rCatT K) op_catT (pe_tup (pa_cons (pv 1) pa_nil)) (pe_callTy call_tuple_of (by rfl) g_tuple (by decide +kernel) (pa_cons (pe_slice sl_list (pv 2) po_none (po_some pe_int)) pa_nil))) (pe_tup (pa_cons (Hs.pe_own O__law_one hr (by first | decide | omega) (by rfl) (pa_cons (pv 0) (pa_cons (pe_lst (pa_cons pe_str (pa_cons pe_str (pa_cons pe_str (pa_cons pe_str (pa_cons pe_str pa_nil)))))) pa_nil))) pa_nil))))) pss_nil)
  (pss_cons (ps_if (pt_cmpR op_in_seq (pv 1) (pe_tup (pa_cons pe_str (pa_cons pe_str pa_nil))) (by rfl)) (pss_one (ps_ret (pe_op (r := rCatT K) op_catT (pe_tup (pa_cons (pv 1) (pa_cons (Hs.pe_own O__law_word hr (by first | decide | omega) (by rfl) (pa_cons (pv 0) pa_nil)) pa_nil))) (pe_callTy call_tuple_of (by rfl) g_tuple (by decide +kernel) (pa_cons (pe_slice sl_list (pv 2) po_none (po_some (pe_ifExp (pt_cmpR op_eq (pv 1) pe_str (nomark _)) pe_int pe_int))) pa_nil))))) pss_nil)
  (pss_cons (ps_set (i := 4) nd rfl (.inl rfl) (pe_disp (pps_cons pe_str pe_int (pps_cons pe_str pe_int (pps_cons pe_str pe_int (pps_cons pe_str pe_int (pps_cons pe_str pe_int (pps_cons pe_str pe_int pps_nil)))))) (by rfl) (by rfl) (by simp) (by decide)))
  (pss_one (ps_ret (pe_op (r := rCatT K) op_catT (pe_tup (pa_cons (pv 1) pa_nil)) (pe_callTy call_tuple_of (by rfl) g_tuple (by decide +kernel) (pa_cons (pe_slice sl_list (pv 2) po_none (po_some (pe_dget (Hs.un1 hr) (pv 4) (pv 1) (fun _ _ => rfl)))) pa_nil)))))))))))), ?_⟩)
  · obtain ⟨b, l, ns, n, rfl, _⟩ := h
    rfl
  · obtain ⟨b, l, ns, n, rfl, B, hn, k⟩ := h
    refine ⟨sz_of (by simp), fun a ha => ?_⟩
    have ea := Ex.new (o := .lst (words10.map V.str)) ha
    refine ⟨_, rfl, _, rfl, b, l, ns, n, 10, rfl, B.ext ea (Nat.le_refl _), by omega, by decide, by decide, fun v0 H1 p0 q0 B1 k1 => ?_⟩
    have ha1 := k1 _ _ (upd_same (H := H) (a := a) (o := .lst (words10.map V.str))) (bag_ne B ha)
    obtain ⟨x, hat, hx⟩ := atI_get (xs := words10.map V.str) p0 q0
    obtain ⟨wd, hwd, rfl⟩ := List.mem_map.mp hx
    obtain ⟨thw, wne, wnm⟩ := words_ok wd hwd
    refine ⟨a, _, v0, _, rfl, rfl, sq_of ha1, hat, ?_⟩
    dsimp only [gName]
    refine q_te (lc_nums (i0 := 0) (j := 5) (vs := [5]) (σ := [some (.ref b), some (.str wd), none, none, none, none, none]) (fun _ => rfl) (fun _ => rfl) B1 (by omega) fun S xs H2 nS hS l5 hxs B2 k2 => ?_)
    have kk : But H H2 b := fun c o hc hb => k2 _ _ (k1 _ _ (ea _ _ hc) hb) hb
    have nSb := bag_ne B1 nS
    clear hat hx ha1 k1 k2 B1 ea
    by_cases h1 : wd = "unsure"
    · subst h1
      refine q_when (b := true) (et_is (et_test (ev_op (ev_var rfl) ev_c (rv_eq rfl))) (by simp)) (fun _ H3 e3 => ?_) (fun ht => Bool.noConfusion ht)
      have B3 := B2.ext e3 (Nat.le_refl _)
      refine q_te (lc_drawR (b := b) (l := l) (ns := ns) (j := 5) (vs := [5]) (σ := [some (.ref b), some (.str "unsure"), some (.ref S), none, none, none, none]) (M := 8) (c := 20) (N := n + 22) (C := fun n => 1 ≤ n) (G := GRows K) (fun _ _ _ e h => h.kp e) (by decide) (fun _ => rfl) (fun R r => ?_) (fun _ => ⟨[], [], rfl, rfl, (fun _ h => by cases h), (fun _ _ _ h _ => by cases h)⟩) (fun i xs' H' Q' hi bt Bi kq => ?_) (fun D rs H4 nD hD hl8 hc1 hG B4 k4 => ?_))
      · refine ⟨_, rfl, b, l, ns, n + 1 + 20, 8, rfl, B3, by omega, by decide, by decide, fun v H4 p4 q4 B4 k4 => ⟨1, v, rfl, rfl, ?_⟩⟩
        have z := r (v.toNat + 1) H4 (by omega) (by omega) B4 k4
        rw [show ((v.toNat + 1 : Nat) : Int) = 1 + v by omega] at z
        exact z
      · refine tup_te (lc_nums (i0 := 0) (j := 6) (vs := [6]) (σ := [some (.ref b), some (.str "unsure"), some (.ref S), none, none, some (.int (0 + (i : Nat))), none]) (fun _ => rfl) (fun _ => rfl) Bi (by omega) fun D ys H4 nD hD l5' hys B4 k4 => ⟨D, ys, rfl, .inl ⟨sq_of hD, fun t ht => ?_⟩⟩)
        have et := Ex.new (o := .tup ys) ht
        exact kq (.ref t) _ (B4.ext et (by omega)) (k4.ex et) fun H5 kp g => g.snoc hys l5' (kp.sqt (st_of upd_same))
      · obtain ⟨ps, rows, rfl, g1, g2, g3⟩ := hG
        rw [List.length_map] at hl8 hc1 B4
        refine ⟨_, rfl, _, rfl, D, ps.map V.ref, rfl, .inl ⟨sq_of hD, fun c hc => ⟨sz_of (by simp), fun p hp => ?_⟩⟩⟩
        have ec := Ex.new (o := .tup (ps.map V.ref)) hc
        have ep := Ex.new (o := .tup [V.str "unsure", .ref c]) hp
        have e5 := ec.trans ep
        refine k p (.unsure rows) _ ⟨by omega, g2⟩ (fun z => by rw [z, List.length_nil] at g1; omega) trivial ⟨c, ps, st_of upd_same, ex_t ep (st_of upd_same), g1, fun i q r hq hr => ex_t e5 (g3 i q r hq hr)⟩ (B4.ext e5 (by omega)) ?_
        exact (((kk.ex e3).trans k4)).ex e5
    · refine q_when (b := false) (et_is (et_test (ev_op (ev_var (v := .str wd) rfl) ev_c (rv_eq rfl))) (by simp [h1])) (fun ht => Bool.noConfusion ht) (fun _ H3 e3 => ?_)
      have B3 := B2.ext e3 (Nat.le_refl _)
      have hS3 := e3 _ _ hS
      have k3 : But H H3 b := kk.ex e3
      obtain ⟨zs, rfl, hzs⟩ := hxs
      rw [List.length_map] at l5
      have sl : ∀ {σ : L2.St} {H' : Hp} {th : TO} {m : Nat}, σ[2]? = some (some (.ref S)) → H' S = some (.lst (zs.map V.int)) → m ≤ 5 → EvO th σ H' (some (m : Int)) → EvL (tSl (rSlL K) (tVar 2) tNoPart th) σ H' ((zs.take m).map V.int) := fun {σ H' th m} h0 e hm hth => by
        have q := el_sl (K := K) (σ := σ) (H := H') (ev_var h0) eo_none hth (sq_of e)
        have ec : cutV (zs.map V.int) none (some (m : Int)) = (zs.take m).map V.int := by
          unfold cutV
          rw [HT.sIx_nat, HT.sIx_none, List.drop_zero, Nat.sub_zero, List.length_map, l5, Nat.min_eq_left hm, List.map_take]
        rw [ec] at q
        exact q
      have hzt : ∀ m, ∀ z ∈ zs.take m, z.natAbs < 10 ^ 9 := fun m z hz => hzs z (List.mem_of_mem_take hz)
      have lzt : ∀ m, m ≤ 5 → (zs.take m).length = m := fun m hm => by rw [List.length_take]; omega
      have tht : ∀ m, ∀ x ∈ (zs.take m).map V.int, ThOk x := fun m x hx => by
        obtain ⟨z, hz, rfl⟩ := List.mem_map.mp hx
        exact th_int (hzt m z hz)
      by_cases h2 : wd = "pane"
      · subst h2
        obtain ⟨tk, htk⟩ := TF ("pane", "nnnns") (by decide +kernel)
        refine q_when (b := true) (et_is (et_test (ev_op (ev_var rfl) ev_c (rv_eq rfl))) (by simp)) (fun _ H4 e4 => ?_) (fun ht => Bool.noConfusion ht)
        have B4 := B3.ext e4 (Nat.le_refl _)
        refine eu_go (eu_catT (K := K) (xs := [V.str "pane"]) (ys := (zs.take 4).map V.int) (eu_tup (ea_cons (ev_var rfl) ea_nil) (by simp)) (eu_tupOf (sl (m := 4) rfl (e4 _ _ hS3) (by decide) (eo_some ev_c))) (by simp) (by intro z; have := congrArg List.length z; rw [List.length_map, lzt 4 (by decide)] at this; cases this) (by rw [List.length_map, lzt 4 (by decide)] <;> decide)) fun p1 H5 n1 e5 hp1 => ?_
        have B5 := B4.ext e5 (Nat.le_refl _)
        refine ⟨_, rfl, sz_of (by simp), fun a5 ha5 => ?_⟩
        have ea5 := Ex.new (o := .lst (siftsL.map V.str)) ha5
        refine ⟨b, l, a5, ns, n + 1 + 20, siftsL.map V.str, rfl, B5.ext ea5 (Nat.le_refl _), by omega, upd_same, bag_ne B5 ha5, by decide, by decide, fun v H6 hv B6 k6 => ⟨sz_of (by simp), fun p2 hp2 => ?_⟩⟩
        obtain ⟨x, hx, rfl⟩ := List.mem_map.mp hv
        obtain ⟨s1, s2⟩ := sifts_ok x hx
        have e2' := Ex.new (o := .tup [V.str x]) hp2
        have hp1' := e2' _ _ (k6.tup (B5.ext ea5 (Nat.le_refl _)) (ea5 _ _ hp1))
        refine ⟨p1, p2, _, _, rfl, rfl, st_of hp1', st_of upd_same, by simp, sz_of (by simp; omega), (fun z => by cases z), fun _ q hq => ?_⟩
        have eq := Ex.new (o := .tup (([V.str "pane"] ++ (zs.take 4).map V.int) ++ [V.str x])) hq
        have al : AllRd (("nnnns" : Str).cps.toList) ((zs.take 4).map V.int ++ [V.str x]) := by
          have z := (AllRd.ints (hzt 4)).app (.cons s2 .nil)
          rw [lzt 4 (by decide)] at z
          have e : ("nnnns" : Str).cps.toList = List.replicate 4 110 ++ [115] := by decide +kernel
          rw [e]
          exact z
        have ll : ((zs.take 4).map V.int ++ [V.str x]).length = 5 := by rw [List.length_append, List.length_map, lzt 4 (by decide)] <;> rfl
        refine k q (.plain "pane" ((zs.take 4).map V.int ++ [V.str x])) _ ⟨wnm, h1, fun y hy => ?_, by rw [ll]; decide⟩ (fit_of wne htk (by decide +kernel) al) ⟨fun _ => ll, fun _ => by rw [ll]; decide⟩ (st_of (upd_same (o := .tup (([V.str "pane"] ++ (zs.take 4).map V.int) ++ [V.str x])))) (B6.ext (e2'.trans eq) (by omega)) ?_
        · rcases List.mem_cons.mp hy with rfl | hy
          · exact thw
          · rcases List.mem_append.mp hy with hy | hy
            · exact tht 4 y hy
            · rw [List.mem_singleton.mp hy]
              exact s1
        · exact ((k3.ex (((e4.trans e5).trans ea5))).trans k6).ex (e2'.trans eq)
      · refine q_when (b := false) (et_is (et_test (ev_op (ev_var (v := .str wd) rfl) ev_c (rv_eq rfl))) (by simp [h2])) (fun ht => Bool.noConfusion ht) (fun _ H4 e4 => ?_)
        have B4 := B3.ext e4 (Nat.le_refl _)
        by_cases h3 : wd = "move" ∨ wd = "drop"
        · obtain ⟨m, hm5, hm1, hm, fm, ⟨tk, htk⟩, hcs, hfa⟩ : ∃ m : Nat, m ≤ 5 ∧ 1 ≤ m ∧ ((wd = "move" ∧ m = 3) ∨ (wd = "drop" ∧ m = 1)) ∧ ∃ fm : Str, (∃ tk, PySem.W.nsIn K dF wd = some (some (.str fm tk))) ∧ fm.cps.toList = 119 :: List.replicate m 110 ∧ fm.cps.all (· < 128) = true := by
            rcases h3 with rfl | rfl
            · exact ⟨3, by decide, by decide, .inl ⟨rfl, rfl⟩, "wnnn", TF ("move", "wnnn") (by decide +kernel), by decide +kernel, by decide +kernel⟩
            · exact ⟨1, by decide, by decide, .inr ⟨rfl, rfl⟩, "wn", TF ("drop", "wn") (by decide +kernel), by decide +kernel, by decide +kernel⟩
          have win : inV (.str wd) [V.str "move", .str "drop"] = true := by
            rcases h3 with rfl | rfl <;> decide +kernel
          refine q_when (b := true) (et_is (et_test (ev_inU (K := K) (ev_var (v := .str wd) rfl) (eu_tup (ea_cons ev_c (ea_cons ev_c ea_nil)) (by simp)) rfl rfl)) win) (fun _ H5 e5 => ?_) (fun ht => Bool.noConfusion ht)
          have B5 := B4.ext e5 (Nat.le_refl _)
          refine ⟨_, rfl, _, rfl, b, l, ns, n + 1 + 20, rfl, B5, by omega, fun x H6 hx B6 k6 => ⟨sz_of (by simp), fun p1 hp1 => ?_⟩⟩
          obtain ⟨s1, s2⟩ := sorts_ok x hx
          have e1' := Ex.new (o := .tup [V.str wd, .str x]) hp1
          have hS7 := e1' _ _ (k6 _ _ ((e4.trans e5) _ _ hS3) nSb)
          have eo : EvO (tPart (tIf (tTest (tOp rEq (tVar 1) (tC (.str "move")))) (tC (.int 3)) (tC (.int 1)))) [some (.ref b), some (.str wd), some (.ref S), none, none, none, none] (upd H6 p1 (.tup [V.str wd, .str x])) (some (m : Int)) := by
            rcases hm with ⟨rfl, rfl⟩ | ⟨rfl, rfl⟩
            · exact eo_some (ev_if (b := true) (et_is (et_test (ev_op (ev_var rfl) ev_c (rv_eq rfl))) (by simp)) (fun _ => ev_c) (fun h => Bool.noConfusion h))
            · exact eo_some (ev_if (b := false) (et_is (et_test (ev_op (ev_var rfl) ev_c (rv_eq rfl))) (by decide +kernel)) (fun h => Bool.noConfusion h) (fun _ => ev_c))
          refine eu_go (eu_tupOf (sl rfl hS7 hm5 eo)) fun p2 H7 n7 e7 hp2 => ?_
          have lz := lzt m hm5
          refine ⟨p1, p2, _, _, rfl, rfl, st_of (e7 _ _ upd_same), st_of hp2, by simp, sz_of (by simp; omega), (fun z => by have := congrArg List.length z; rw [List.length_map, lz] at this; exact absurd this (by intro h; simp at h; omega)), fun _ q hq => ?_⟩
          have eq := Ex.new (o := .tup ([V.str wd, .str x] ++ (zs.take m).map V.int)) hq
          have al : AllRd fm.cps.toList (.str x :: (zs.take m).map V.int) := by
            have z := AllRd.ints (hzt m)
            rw [lz] at z
            rw [hcs]
            exact .cons s2 z
          have ll : (V.str x :: (zs.take m).map V.int).length = m + 1 := by rw [List.length_cons, List.length_map, lz]
          refine k q (.plain wd (.str x :: (zs.take m).map V.int)) _ ⟨wnm, h1, fun y hy => ?_, by rw [ll]; omega⟩ (fit_of wne htk hfa al) ⟨fun z => absurd z h2, fun _ => by rw [ll]; omega⟩ (st_of (upd_same (o := .tup ([V.str wd, .str x] ++ (zs.take m).map V.int)))) (B6.ext ((e1'.trans e7).trans eq) (by omega)) ?_
          · rcases List.mem_cons.mp hy with rfl | hy
            · exact thw
            · rcases List.mem_cons.mp hy with rfl | hy
              · exact s1
              · exact tht m y hy
          · exact ((k3.ex (e4.trans e5)).trans k6).ex ((e1'.trans e7).trans eq)
        · obtain ⟨m, hm5, hm1, fm, ⟨tk, htk⟩, hcs, hfa, hv, nin⟩ : ∃ m : Nat, m ≤ 5 ∧ 1 ≤ m ∧ ∃ fm : Str, (∃ tk, PySem.W.nsIn K dF wd = some (some (.str fm tk))) ∧ fm.cps.toList = List.replicate m 110 ∧ fm.cps.all (· < 128) = true ∧ valV dictL (.inr wd) = some (.int (m : Int)) ∧ inV (.str wd) [V.str "move", .str "drop"] = false := by
            simp only [words10, List.mem_cons, List.not_mem_nil, or_false] at hwd
            rcases hwd with rfl | rfl | rfl | rfl | rfl | rfl | rfl | rfl | rfl | rfl
            · exact ⟨5, by decide, by decide, "nnnnn", TF ("lamp", "nnnnn") (by decide +kernel), by decide +kernel, by decide +kernel, by rfl, by decide +kernel⟩
            · exact absurd rfl h1
            · exact ⟨4, by decide, by decide, "nnnn", TF ("post", "nnnn") (by decide +kernel), by decide +kernel, by decide +kernel, by rfl, by decide +kernel⟩
            · exact absurd rfl h2
            · exact absurd (.inl rfl) h3
            · exact ⟨1, by decide, by decide, "n", TF ("switch", "n") (by decide +kernel), by decide +kernel, by decide +kernel, by rfl, by decide +kernel⟩
            · exact absurd (.inr rfl) h3
            · exact ⟨5, by decide, by decide, "nnnnn", TF ("look", "nnnnn") (by decide +kernel), by decide +kernel, by decide +kernel, by rfl, by decide +kernel⟩
            · exact ⟨1, by decide, by decide, "n", TF ("strike", "n") (by decide +kernel), by decide +kernel, by decide +kernel, by rfl, by decide +kernel⟩
            · exact ⟨2, by decide, by decide, "nn", TF ("settle", "nn") (by decide +kernel), by decide +kernel, by decide +kernel, by rfl, by decide +kernel⟩
          refine q_when (b := false) (et_is (et_test (ev_inU (K := K) (ev_var (v := .str wd) rfl) (eu_tup (ea_cons ev_c (ea_cons ev_c ea_nil)) (by simp)) rfl rfl)) nin) (fun ht => Bool.noConfusion ht) (fun _ H5 e5 => ?_)
          refine q_te fun dp hdp => ⟨upd_same, dictL, rfl, by decide, ?_⟩
          have em : mergeK [] dictL = dictL := by rfl
          rw [em]
          have ed : Ex H5 (upd (upd H5 dp (.dK [])) dp (.dK dictL)) := Ex.mut (Ex.new hdp) hdp
          generalize hH6 : upd (upd H5 dp (.dK [])) dp (.dK dictL) = H6
          have hdp6 : H6 dp = some (.dK dictL) := by
            rw [← hH6]
            exact upd_same
          rw [hH6] at ed
          have lz := lzt m hm5
          have eo : EvO (tPart (tDGet (tVar 4) (tVar 1))) [some (.ref b), some (.str wd), some (.ref S), none, some (.ref dp), none, none] H6 (some (m : Int)) := eo_some fun H7 e7 Q7 q7 => ⟨_, rfl, _, rfl, dp, .int (m : Int), rfl, by
            have g := DGet.k (k := .inr wd) (e7 _ _ hdp6)
            rw [hv] at g
            exact g, q7 H7 (Ex.refl _)⟩
          refine s_retU (eu_catT (K := K) (xs := [V.str wd]) (ys := (zs.take m).map V.int) (eu_tup (ea_cons (ev_var rfl) ea_nil) (by simp)) (eu_tupOf (sl rfl (ed _ _ ((e4.trans e5) _ _ hS3)) hm5 eo)) (by simp) (fun z => by have := congrArg List.length z; rw [List.length_map, lz] at this; exact absurd this (by intro h; simp at h; omega)) (by rw [List.length_map, lz]; simp; omega)) fun q H7 nq e7 hq => ?_
          have al : AllRd fm.cps.toList ((zs.take m).map V.int) := by
            have z := AllRd.ints (hzt m)
            rw [lz] at z
            rw [hcs]
            exact z
          have ll : ((zs.take m).map V.int).length = m := by rw [List.length_map, lz]
          refine k q (.plain wd ((zs.take m).map V.int)) _ ⟨wnm, h1, fun y hy => ?_, by rw [ll]; omega⟩ (fit_of wne htk hfa al) ⟨fun z => absurd z h2, fun z => absurd z h3⟩ (st_of hq) (B4.ext ((e5.trans ed).trans e7) (by omega)) ?_
          · rcases List.mem_cons.mp hy with rfl | hy
            · exact thw
            · exact tht m y hy
          · exact k3.ex ((e4.trans e5).trans (ed.trans e7))
end
end Hs
namespace Hs
open PySem PySem.Spec PyProof.Rows L2 Evl
theorem pi_tupK {X : Cx} {tg e : Expr} {te : TE} {K : PySem.W.Frag} (he : PE X e te) (hK : X.K = K := by rfl) : PI X tg e (iTup K te) := by
  subst hK
  exact pi_tup he
abbrev tJnK (K : PySem.W.Frag) (to te : TE) : TE := tM1 (fun x xs H Q => ∃ a p, ∃ ys : List Str, x = .str a ∧ xs = [.ref p] ∧ (SqL K H p (ys.map V.str) ∨ SqT K H p (ys.map V.str)) ∧ (ys.map (·.length)).sum + ys.length * a.length ≤ 16777216 ∧ Q (.str (Txt.join a ys)) H) to te
theorem pe_joinK {X : Cx} {K : PySem.W.Frag} {o e : Expr} {to te : TE} {apos pos : Pos} (ho : PE X o to) (he : PE X e te) (hK : X.K = K := by rfl) (hs : starEach [e] X.env = [(false, eval e X.env)] := by rfl) (hbase : attributeBase o "join" X.env (eval o X.env) = eval o X.env := by rfl) (hline : (apos.endLine == pos.line) = true := by rfl) :
    PE X (.Call (.Attribute o "join" apos) [e] [] pos) (tJnK K to te) := by
  subst hK
  exact pe_join ho he hs hbase hline
end Hs
namespace Hs
open PySem PySem.Spec PyProof.Rows L2 Evl
/-! ### the law's own row; whether a deed is plain -/
theorem ev_chain {σ : L2.St} {H : Hp} {ta tb tc : TE} {i j k : Int} (ha : Ev ta σ H (.int i)) (hb : Ev tb σ H (.int j)) (hc : Ev tc σ H (.int k)) : Ev (tChain (rI0 fun i j => .bl (decide (i ≤ j))) (rI0 fun i j => .bl (decide (i ≤ j))) ta tb tc) σ H (.bl (decide (i ≤ j) && decide (j ≤ k))) := fun H1 e Q q => ha H1 e _ fun H2 e2 => hb H2 (e.trans e2) _ fun H3 e3 => ⟨i, j, rfl, rfl, decide (i ≤ j), rfl, by
  have e13 := e2.trans e3
  cases h : decide (i ≤ j) with
  | true =>
    rw [h, Bool.true_and] at q
    exact hc H3 (e.trans e13) _ fun H4 e4 => ⟨j, k, rfl, rfl, q H4 (e13.trans e4)⟩
  | false =>
    rw [h, Bool.false_and] at q
    exact q H3 e13⟩
theorem ev_jn {K : PySem.W.Frag} {te : TE} {σ : L2.St} {H : Hp} {s : Str} {ys : List Str} {k : Nat} (h : EvL te σ H (ys.map V.str)) (hk : ∀ p ∈ ys, p.length ≤ k) (hb : ys.length * (k + s.length) ≤ 100000) : Ev (tJnK K (tC (.str s)) te) σ H (.str (Txt.join s ys)) := fun H1 e Q q =>
  ⟨⟨_, rfl⟩, h H1 e _ fun p H2 n2 e2 h2 => ⟨s, p, ys, rfl, rfl, .inl (sq_of h2), by
    have z := sum_le (k := k) ys hk
    rw [Nat.mul_add] at hb
    omega, q H2 e2⟩⟩
theorem log_int {n : Int} (hn : n.natAbs < 10 ^ 9) : n.natAbs.log2 < 1920 := Nat.lt_of_lt_of_le (PySem.Flt.log2_lt_of (k := 30) (by decide) (Nat.lt_of_lt_of_le hn (by decide))) (by decide)
abbrev rStrB : List V → Hp → VK → Prop := fun xs H Q => (∃ i, xs = [V.int i] ∧ i.natAbs.log2 < 1920 ∧ Q (V.str (Str.ofString (toString i))) H) ∨ ∃ a, xs = [V.str a] ∧ Q (V.str a) H
theorem ev_strI {σ : L2.St} {H : Hp} {i : Nat} {n : Int} (h : σ[i]? = some (some (.int n))) (hn : n.natAbs < 10 ^ 9) : Ev (tCB rStrB (tCons (tVar i) tNil)) σ H (.str (numS n)) := fun H1 e Q q => ⟨_, h, .inl ⟨n, rfl, log_int hn, q H1 (Ex.refl _)⟩⟩
theorem ev_part {σ : L2.St} {H : Hp} {i : Nat} {v : V} (h : σ[i]? = some (some v)) (hv : ThOk v) : Ev (tIf (tTest (tOp rNe (tVar i) (tC (.str "")))) (tCB rStrB (tCons (tVar i) tNil)) (tC (.str "-"))) σ H (.str (thS v)) := by
  rcases hv with ⟨n, rfl, hn⟩ | ⟨x, rfl, _⟩
  · exact ev_if (b := true) (et_is (et_test (ev_op (ev_var h) ev_c (rv_ne rfl))) (by simp)) (fun _ => ev_strI h hn) (fun z => Bool.noConfusion z)
  · by_cases hx : x = ""
    · have e : thS (.str x) = "-" := if_pos hx
      rw [e]
      exact ev_if (b := false) (et_is (et_test (ev_op (ev_var h) ev_c (rv_ne rfl))) (by simp [hx])) (fun z => Bool.noConfusion z) (fun _ => ev_c)
    · have e : thS (.str x) = x := if_neg hx
      rw [e]
      exact ev_if (b := true) (et_is (et_test (ev_op (ev_var h) ev_c (rv_ne rfl))) (by simp [hx])) (fun _ => fun H1 e Q q => ⟨_, h, .inr ⟨x, rfl, q H1 (Ex.refl _)⟩⟩) (fun z => Bool.noConfusion z)
theorem th_flat {v : V} (h : ThOk v) : flatV v = true := by
  rcases h with ⟨n, rfl, _⟩ | ⟨x, rfl, _⟩ <;> rfl
def spLRow (K : PySem.W.Frag) : Sp := fun vs H Q _ => ∃ (a : Addr) (d : WD), vs = [.ref a] ∧ DeedV K H a d ∧ d.ok ∧ RetV (.str d.text) H Q
def WD.plainB : WD → Bool
  | .unsure rows => decide ((2 : Int) ≤ (rows.length : Int)) && decide ((rows.length : Int) ≤ 6)
  | .plain w xs => if inV (.str w) [V.str "move", .str "drop"] = true then inV (xs.getD 0 .non) [V.str "lamp", .str "post", .str "pane"] else (!decide (V.str w = .str "pane")) || inV (xs.getD 4 .non) [V.str "", .str "r", .str "g", .str "b", .str "rg", .str "rb", .str "gb", .str "rgb"]
def spPlain (K : PySem.W.Frag) : Sp := fun vs H Q _ => ∃ (a : Addr) (d : WD), vs = [.ref a] ∧ DeedV K H a d ∧ d.ok ∧ d.shape ∧ RetV (.bl d.plainB) H Q
section
variable {P : Program} {w : World} {K : PySem.W.Frag} {mg : Str → Option Value} {base : Heap} {f dF : Addr} {fd : FuncData}
abbrev sLRow : Stmt := top 25
theorem scLRow : FnScope ["_law_deed", "_law_one_here", "_law_part"] ["_law_deed"] (defScope sLRow) := ⟨rfl, rfl, rfl, by decide +kernel, rfl, by decide +kernel, by decide +kernel⟩
theorem ok_lRow (F : FnP K "_law_row_text" sLRow f fd) (g_str : mg "str" = none) : FnOk P w K mg base CX0 1 f fd ["_law_deed"] (spLRow K) := by
  have nd := scLRow.nd
  refine F.ok scLRow (fun vs H Q E h => ?_) (fun cdv A outer s H vs Q E hr h => ⟨_, PSs.nox (pss_cons (ps_if (pt_cmpR op_eq (pe_ix (r := rIxT K) ix_tup (pv 0) pe_int (fun _ _ => rfl)) pe_str (nomark _)) (pss_one (ps_ret (pe_op op_add_str pe_str (pe_join pe_str (pe_lc (own := [("_law_one_here", 1)]) rfl nd (pi_tup (pe_ix (r := rIxT K) ix_tup (pv 0) pe_int (fun _ _ => rfl))) (blkOk_by (N := ["_law_deed", "_law_one_here", "_law_part"]) (sc := defScope (Hs.top 25)) (by decide +kernel)) (fun _ _ _ _ _ => (pg_name (i := 1) nd rfl (Or.inl rfl))) (fun _ _ _ _ _ => pts_nil) (fun _ _ _ _ _ => (Hs.pe_joinK (K := K) pe_str (pe_lc (own := [("_law_part", 2)]) rfl nd (Hs.pi_tupK (K := K) (pv 1)) (blkOk_by (N := ["_law_deed", "_law_one_here", "_law_part"]) (by rfl)) (fun _ _ _ _ _ => (pg_name (i := 2) nd rfl (Or.inl rfl))) (fun _ _ _ _ _ => pts_nil) (fun _ _ _ _ _ => (pe_callTy (call_str_int.or SkE.call_str_str) (by rfl) g_str (by decide +kernel) (pa_cons (pv 2) pa_nil))))))))))) pss_nil)
  (pss_one (ps_ret (pe_join pe_str (pe_lc (own := [("_law_part", 2)]) rfl nd (pi_tup (pv 0)) (blkOk_by (N := ["_law_deed", "_law_one_here", "_law_part"]) (sc := defScope (Hs.top 25)) (by decide +kernel)) (fun _ _ _ _ _ => (pg_name (i := 2) nd rfl (Or.inl rfl))) (fun _ _ _ _ _ => pts_nil) (fun _ _ _ _ _ => (pe_ifExp (pt_cmpR op_ne (pv 2) pe_str (nomark _)) (pe_callTy (call_str_int.or SkE.call_str_str) (by rfl) g_str (by decide +kernel) (pa_cons (pv 2) pa_nil)) pe_str))))))), ?_⟩)
  · obtain ⟨a, d, rfl, _⟩ := h
    rfl
  · obtain ⟨a, d, rfl, hd, ok, k⟩ := h
    cases d with
    | plain wd xs =>
      obtain ⟨h1, h2, h3, h4⟩ := ok
      have hd : SqT K H a (.str wd :: xs) := hd
      refine q_when (b := false) (et_is (et_test (ev_op (ev_op (ev_var rfl) ev_c (rv_ixT (v := .str wd) hd (atI_nat (xs := .str wd :: xs) (j := 0) rfl))) ev_c (rv_eq rfl))) (by simp [h2])) (fun ht => Bool.noConfusion ht) (fun _ H1 e1 => ?_)
      have key : EvL (tLc (iTup K (tVar 0)) (gName 2) tYes (tIf (tTest (tOp rNe (tVar 2) (tC (.str "")))) (tCB rStrB (tCons (tVar 2) tNil)) (tC (.str "-"))) [2]) [some (.ref a), none, none] H1 (((V.str wd :: xs).map thS).map V.str) := by
        have z := el_lcTu (K := K) (tl := tVar 0) (te := tIf (tTest (tOp rNe (tVar 2) (tC (.str "")))) (tCB rStrB (tCons (tVar 2) tNil)) (tC (.str "-"))) (j := 2) (vs := [2]) (σ := [some (.ref a), none, none]) (xs := V.str wd :: xs) (fun i => V.str (thS ((V.str wd :: xs).getD i .non))) (ev_var rfl) (ex_t e1 hd) (by rw [List.length_cons]; omega) (fun _ => rfl) (fun i x H2 e2 hi => by
          have eg : (V.str wd :: xs).getD i .non = x := by rw [List.getD_eq_getElem?_getD, hi] <;> rfl
          rw [eg]
          exact ev_part rfl (h3 x (List.mem_of_getElem? hi)))
        rw [given_mapA (g := fun v => V.str (thS v)) (d := .non)] at z
        rw [List.map_map]
        exact z
      refine s_ret (ev_jn (K := K) (k := 20) key (fun p hp => ?_) ?_) fun H2 e2 => k H2 (e1.trans e2)
      · obtain ⟨x, hx, rfl⟩ := List.mem_map.mp hp
        exact thS_len (h3 x hx)
      · have q1 : (" " : Str).length = 1 := by decide +kernel
        rw [q1, List.length_map, List.length_cons]
        omega
    | unsure rows =>
      obtain ⟨lr, hr5⟩ := ok
      obtain ⟨c, ps, hd, hc, hl, hp⟩ := hd
      refine q_when (b := true) (et_is (et_test (ev_op (ev_op (ev_var rfl) ev_c (rv_ixT (v := .str "unsure") hd rfl)) ev_c (rv_eq rfl))) (by simp)) (fun _ H1 e1 => ?_) (fun ht => Bool.noConfusion ht)
      have key : EvL (tLc (iTup K (tOp (rIxT K) (tVar 0) (tC (.int 1)))) (gName 1) tYes (tJnK K (tC (.str " ")) (tLc (iTup K (tVar 1)) (gName 2) tYes (tCB rStrB (tCons (tVar 2) tNil)) [2])) [1]) [some (.ref a), none, none] H1 ((rows.map rowS).map V.str) := by
        have z := el_lcTu (K := K) (tl := tOp (rIxT K) (tVar 0) (tC (.int 1))) (te := tJnK K (tC (.str " ")) (tLc (iTup K (tVar 1)) (gName 2) tYes (tCB rStrB (tCons (tVar 2) tNil)) [2])) (j := 1) (vs := [1]) (σ := [some (.ref a), none, none]) (xs := ps.map V.ref) (a := c) (fun i => V.str (rowS (rows.getD i []))) (ev_op (ev_var rfl) ev_c (rv_ixT (v := .ref c) (ex_t e1 hd) rfl)) (ex_t e1 hc) (by rw [List.length_map]; omega) (fun _ => rfl) (fun i x H2 e2 hi => by
          rw [List.getElem?_map] at hi
          obtain ⟨p, hpi, rfl⟩ := Option.map_eq_some_iff.mp hi
          obtain ⟨r, hri⟩ : ∃ z, rows[i]? = some z := ⟨_, List.getElem?_eq_getElem (by rw [← hl]; exact (List.getElem?_eq_some_iff.mp hpi).1)⟩
          have eg : rows.getD i [] = r := by rw [List.getD_eq_getElem?_getD, hri] <;> rfl
          rw [eg]
          obtain ⟨l5, hb⟩ := hr5 r (List.mem_of_getElem? hri)
          have inner : EvL (tLc (iTup K (tVar 1)) (gName 2) tYes (tCB rStrB (tCons (tVar 2) tNil)) [2]) [some (.ref a), some (.ref p), none] H2 ((r.map numS).map V.str) := by
            have z := el_lcTu (K := K) (tl := tVar 1) (te := tCB rStrB (tCons (tVar 2) tNil)) (j := 2) (vs := [2]) (σ := [some (.ref a), some (.ref p), none]) (xs := r.map V.int) (fun i => V.str (numS (r.getD i 0))) (ev_var rfl) (ex_t (e1.trans e2) (hp i p r hpi hri)) (by rw [List.length_map]; omega) (fun _ => rfl) (fun j y H3 e3 hj => by
              rw [List.getElem?_map] at hj
              obtain ⟨n, hn, rfl⟩ := Option.map_eq_some_iff.mp hj
              have eg : r.getD j 0 = n := by rw [List.getD_eq_getElem?_getD, hn] <;> rfl
              rw [eg]
              exact ev_strI rfl (hb n (List.mem_of_getElem? hn)))
            rw [List.length_map, given_mapA (g := fun n => V.str (numS n)) (d := 0)] at z
            rw [List.map_map]
            exact z
          refine ev_jn (K := K) (k := 10) inner (fun q hq => ?_) ?_
          · obtain ⟨n, hn, rfl⟩ := List.mem_map.mp hq
            exact numS_len (hb n hn)
          · have q1 : (" " : Str).length = 1 := by decide +kernel
            rw [q1, List.length_map]
            omega)
        rw [List.length_map, hl, given_mapA (g := fun r => V.str (rowS r)) (d := [])] at z
        rw [List.map_map]
        exact z
      have lrow : ∀ p ∈ rows.map rowS, p.length ≤ 55 := fun p hp => by
        obtain ⟨r, hr, rfl⟩ := List.mem_map.mp hp
        exact rowS_len (hr5 r hr).1 (hr5 r hr).2
      have q3 : (" / " : Str).length = 3 := by decide +kernel
      have q8 : ("unsure " : Str).length = 7 := by decide +kernel
      have jl := join_len (y := " / ") lrow
      rw [q3, List.length_map] at jl
      have eu : ("unsure " : Str) = "unsure" ++ " " := by decide +kernel
      refine s_ret (ev_op ev_c (ev_jn (K := K) (k := 55) key lrow (by rw [q3, List.length_map]; omega)) (fun H2 e2 Q2 q2 => ⟨_, _, rfl, rfl, sz_of (by rw [q8]; omega), q2 H2 (Ex.refl _)⟩)) fun H2 e2 => ?_
      have kk := k H2 (e1.trans e2)
      have et : (WD.unsure rows).text = "unsure " ++ Txt.join " / " (rows.map rowS) := by
        rw [eu]
        rfl
      rw [et] at kk
      exact kk
abbrev sPlain : Stmt := top 26
theorem scPlain : FnScope ["_law_deed"] ["_law_deed"] (defScope sPlain) := ⟨rfl, rfl, rfl, by decide +kernel, rfl, by decide +kernel, by decide +kernel⟩
theorem ok_plain (F : FnP K "_law_is_plain" sPlain f fd) (g_len : mg "len" = none) : FnOk P w K mg base CX0 1 f fd ["_law_deed"] (spPlain K) := by
  have nd := scPlain.nd
  refine F.ok scPlain (fun vs H Q E h => ?_) (fun cdv A outer s H vs Q E hr h => ⟨_, PSs.nox (pss_cons (ps_if (pt_cmpR op_eq (pe_ix (r := rIxT K) ix_tup (pv 0) pe_int (fun _ _ => rfl)) pe_str (nomark _)) (pss_one (ps_ret (pe_chain op_le op_le pe_int (pe_callB (r := Evl.rLenS K) call_len_seq (by rfl) g_len PySem.boot_len (pa_cons (pe_ix (r := rIxT K) ix_tup (pv 0) pe_int (fun _ _ => rfl)) pa_nil)) pe_int))) pss_nil)
  (pss_cons (ps_if (pt_cmpR op_in_seq (pe_ix (r := rIxT K) ix_tup (pv 0) pe_int (fun _ _ => rfl)) (pe_tup (pa_cons pe_str (pa_cons pe_str pa_nil))) (by rfl)) (pss_one (ps_ret (pe_cmpR op_in_seq (pe_ix (r := rIxT K) ix_tup (pv 0) pe_int (fun _ _ => rfl)) (pe_tup (pa_cons pe_str (pa_cons pe_str (pa_cons pe_str pa_nil)))) (by rfl)))) pss_nil)
  (pss_one (ps_ret (pe_or (pe_cmpR op_ne (pe_ix (r := rIxT K) ix_tup (pv 0) pe_int (fun _ _ => rfl)) pe_str (nomark _)) (pe_one (pe_cmpR op_in_seq (pe_ix (r := rIxT K) ix_tup (pv 0) pe_int (fun _ _ => rfl)) (pe_tup (pa_cons pe_str (pa_cons pe_str (pa_cons pe_str (pa_cons pe_str (pa_cons pe_str (pa_cons pe_str (pa_cons pe_str (pa_cons pe_str pa_nil))))))))) (by rfl)))))))), ?_⟩)
  · obtain ⟨a, d, rfl, _⟩ := h
    rfl
  · obtain ⟨a, d, rfl, hd, ok, sh, k⟩ := h
    cases d with
    | unsure rows =>
      obtain ⟨c, ps, hd, hc, hl, hp⟩ := hd
      refine q_when (b := true) (et_is (et_test (ev_op (ev_op (ev_var rfl) ev_c (rv_ixT (v := .str "unsure") hd rfl)) ev_c (rv_eq rfl))) (by simp)) (fun _ H1 e1 => ?_) (fun ht => Bool.noConfusion ht)
      exact s_ret (ev_chain ev_c (ev_lenT (K := K) (ev_op (ev_var rfl) ev_c (rv_ixT (v := .ref c) (ex_t e1 hd) rfl)) (ex_t e1 hc)) ev_c) fun H2 e2 => by
        have z := k H2 (e1.trans e2)
        rw [List.length_map, hl]
        exact z
    | plain wd xs =>
      obtain ⟨h1, h2, h3, h4⟩ := ok
      obtain ⟨sh1, sh2⟩ := sh
      have hd : SqT K H a (.str wd :: xs) := hd
      have at0 : atI (V.str wd :: xs) 0 = some (.str wd) := atI_nat (xs := .str wd :: xs) (j := 0) rfl
      refine q_when (b := false) (et_is (et_test (ev_op (ev_op (ev_var rfl) ev_c (rv_ixT (v := .str wd) hd at0)) ev_c (rv_eq rfl))) (by simp [h2])) (fun ht => Bool.noConfusion ht) (fun _ H1 e1 => ?_)
      refine q_when (et_test (ev_inU (K := K) (ev_op (ev_var rfl) ev_c (rv_ixT (v := .str wd) (ex_t e1 hd) at0)) (eu_tup (ea_cons ev_c (ea_cons ev_c ea_nil)) (by simp)) rfl rfl)) (fun ht H2 e2 => ?_) (fun ht H2 e2 => ?_)
      · have hm : wd = "move" ∨ wd = "drop" := by
          have z : inV (.str wd) [V.str "move", .str "drop"] = true := ht
          simp only [inV, List.any_cons, List.any_nil, Bool.or_false, eqV, Bool.or_eq_true, beq_iff_eq] at z
          exact z.imp Eq.symm Eq.symm
        obtain ⟨y, ys, rfl⟩ : ∃ y ys, xs = y :: ys := by
          cases xs with
          | nil => exact absurd (sh2 hm) (by decide)
          | cons y ys => exact ⟨y, ys, rfl⟩
        have at1 : atI (V.str wd :: y :: ys) 1 = some y := atI_nat (xs := .str wd :: y :: ys) (j := 1) rfl
        exact s_ret (ev_inU (K := K) (ev_op (ev_var rfl) ev_c (rv_ixT (v := y) (ex_t (e1.trans e2) hd) at1)) (eu_tup (ea_cons ev_c (ea_cons ev_c (ea_cons ev_c ea_nil))) (by simp)) (th_flat (h3 y (by simp))) rfl) fun H3 e3 => by
          have z := k H3 ((e1.trans e2).trans e3)
          have ep : (WD.plain wd (y :: ys)).plainB = inV y [V.str "lamp", .str "post", .str "pane"] := if_pos ht
          rw [ep] at z
          exact z
      · have ep : (WD.plain wd xs).plainB = ((!decide (V.str wd = .str "pane")) || inV (xs.getD 4 .non) [V.str "", .str "r", .str "g", .str "b", .str "rg", .str "rb", .str "gb", .str "rgb"]) := if_neg (by rw [show inV (.str wd) [V.str "move", .str "drop"] = false from ht]; exact Bool.false_ne_true)
        rw [ep] at k
        by_cases hp : wd = "pane"
        · have l5 := sh1 hp
          obtain ⟨y, hy⟩ : ∃ y, (V.str wd :: xs)[5]? = some y := ⟨_, List.getElem?_eq_getElem (by rw [List.length_cons]; omega)⟩
          have eg : xs.getD 4 .non = y := by
            rw [List.getD_eq_getElem?_getD, show xs[4]? = some y from hy] <;> rfl
          rw [eg] at k
          have at5 : atI (V.str wd :: xs) 5 = some y := atI_nat (j := 5) hy
          exact s_ret (ev_orV (ev_op (ev_op (ev_var rfl) ev_c (rv_ixT (v := .str wd) (ex_t (e1.trans e2) hd) at0)) ev_c (rv_ne rfl)) fun _ => ev_inU (K := K) (ev_op (ev_var rfl) ev_c (rv_ixT (v := y) (ex_t (e1.trans e2) hd) at5)) (eu_tup (ea_cons ev_c (ea_cons ev_c (ea_cons ev_c (ea_cons ev_c (ea_cons ev_c (ea_cons ev_c (ea_cons ev_c (ea_cons ev_c ea_nil)))))))) (by simp)) (th_flat (h3 y (List.mem_of_getElem? hy))) rfl) fun H3 e3 => k H3 ((e1.trans e2).trans e3)
        · exact s_ret (ev_is (ev_orV (b := true) (ev_is (ev_op (ev_op (ev_var rfl) ev_c (rv_ixT (v := .str wd) (ex_t (e1.trans e2) hd) at0)) ev_c (rv_ne rfl)) (w := .bl true) (by simp [hp])) fun z => Bool.noConfusion z) (by simp [hp])) fun H3 e3 => k H3 ((e1.trans e2).trans e3)
end
end Hs
namespace Hs
open PySem PySem.Spec PyProof.Rows L2 Evl
/-! ### deeds that are the same, deeds in a list -/
theorem sm_flats {K : PySem.W.Frag} {H : Hp} {d : Nat} {a b : Addr} {xs : List V} (h1 : SqT K H a xs) (h2 : SqT K H b xs) (hf : ∀ x ∈ xs, flatV x = true) (hl : xs.length ≤ 1000) : Sm K H (d + 2) (.ref a) (.ref b) :=
  .inr ⟨a, b, xs, xs, rfl, rfl, .inr ⟨h1, h2⟩, rfl, hl, fun i x y hx hy => by
    rw [hx] at hy
    cases hy
    exact .inl ⟨rfl, hf x (List.mem_of_getElem? hx)⟩⟩
theorem sm_deed {K : PySem.W.Frag} {H : Hp} {e : Nat} {a b : Addr} {d : WD} (ok : d.ok) (h1 : DeedV K H a d) (h2 : DeedV K H b d) : Sm K H (e + 4) (.ref a) (.ref b) := by
  cases d with
  | plain w xs => exact sm_flats h1 h2 (fun x hx => th_flat (ok.2.2.1 x hx)) (by rw [List.length_cons]; have := ok.2.2.2; omega)
  | unsure rows =>
    obtain ⟨c, ps, g1, g2, g3, g4⟩ := h1
    obtain ⟨c', ps', g1', g2', g3', g4'⟩ := h2
    refine .inr ⟨a, b, _, _, rfl, rfl, .inr ⟨g1, g1'⟩, rfl, by simp, fun i x y hx hy => ?_⟩
    match i, hx, hy with
    | 0, hx, hy =>
      cases hx
      cases hy
      exact .inl ⟨rfl, rfl⟩
    | 1, hx, hy =>
      cases hx
      cases hy
      have lr := ok.1
      refine .inr ⟨c, c', _, _, rfl, rfl, .inr ⟨g2, g2'⟩, by rw [List.length_map, List.length_map, g3, g3'], by rw [List.length_map]; omega, fun j x y hx hy => ?_⟩
      rw [List.getElem?_map] at hx hy
      obtain ⟨p, hp, rfl⟩ := Option.map_eq_some_iff.mp hx
      obtain ⟨q, hq, rfl⟩ := Option.map_eq_some_iff.mp hy
      obtain ⟨r, hr⟩ : ∃ r, rows[j]? = some r := ⟨_, List.getElem?_eq_getElem (by rw [← g3]; exact (List.getElem?_eq_some_iff.mp hp).1)⟩
      refine sm_flats (g4 j p r hp hr) (g4' j q r hq hr) (fun x hx => ?_) (by rw [List.length_map, (ok.2 r (List.mem_of_getElem? hr)).1] <;> decide)
      obtain ⟨z, _, rfl⟩ := List.mem_map.mp hx
      rfl
    | i + 2, hx, _ => cases hx
theorem sm_dd {K : PySem.W.Frag} {H : Hp} {a b : Addr} {d : DD} (ok : d.ok) (h1 : DDV K H a d) (h2 : DDV K H b d) : Sm K H 6 (.ref a) (.ref b) := by
  cases d with
  | one d => exact sm_deed (e := 2) ok h1 h2
  | many ds =>
    obtain ⟨c, ps, g1, g2, g3, g4⟩ := h1
    obtain ⟨c', ps', g1', g2', g3', g4'⟩ := h2
    refine .inr ⟨a, b, _, _, rfl, rfl, .inr ⟨g1, g1'⟩, rfl, by simp, fun i x y hx hy => ?_⟩
    match i, hx, hy with
    | 0, hx, hy =>
      cases hx
      cases hy
      exact .inl ⟨rfl, rfl⟩
    | 1, hx, hy =>
      cases hx
      cases hy
      have lr := ok.1
      refine .inr ⟨c, c', _, _, rfl, rfl, .inr ⟨g2, g2'⟩, by rw [List.length_map, List.length_map, g3, g3'], by rw [List.length_map]; omega, fun j x y hx hy => ?_⟩
      rw [List.getElem?_map] at hx hy
      obtain ⟨p, hp, rfl⟩ := Option.map_eq_some_iff.mp hx
      obtain ⟨q, hq, rfl⟩ := Option.map_eq_some_iff.mp hy
      obtain ⟨r, hr⟩ : ∃ r, ds[j]? = some r := ⟨_, List.getElem?_eq_getElem (by rw [← g3]; exact (List.getElem?_eq_some_iff.mp hp).1)⟩
      exact sm_deed (e := 0) (ok.2 r (List.mem_of_getElem? hr)) (g4 j p r hp hr) (g4' j q r hq hr)
    | i + 2, hx, _ => cases hx
def GDeeds (K : PySem.W.Frag) (dF : Addr) (xs : List V) (H : Hp) : Prop := ∃ (ps : List Addr) (ds : List WD), xs = ps.map V.ref ∧ ps.length = ds.length ∧ (∀ d ∈ ds, d.ok ∧ d.fit K dF ∧ d.shape) ∧ ∀ (i : Nat) (p : Addr) (d : WD), ps[i]? = some p → ds[i]? = some d → DeedV K H p d
theorem GDeeds.snoc {K : PySem.W.Frag} {dF : Addr} {xs : List V} {H : Hp} {t : Addr} {d : WD} (h : GDeeds K dF xs H) (hd : d.ok ∧ d.fit K dF ∧ d.shape) (ht : DeedV K H t d) : GDeeds K dF (xs ++ [.ref t]) H := by
  obtain ⟨ps, ds, rfl, h1, h2, h3⟩ := h
  refine ⟨ps ++ [t], ds ++ [d], by rw [List.map_append] <;> rfl, by rw [List.length_append, List.length_append, h1] <;> rfl, fun r hr => ?_, fun i p r hp hr => ?_⟩
  · rcases List.mem_append.mp hr with hr | hr
    · exact h2 r hr
    · rw [List.mem_singleton.mp hr]
      exact hd
  · by_cases hi : i < ps.length
    · rw [List.getElem?_append_left hi] at hp
      rw [List.getElem?_append_left (by omega)] at hr
      exact h3 i p r hp hr
    · rw [List.getElem?_append_right (by omega)] at hp
      rw [List.getElem?_append_right (by omega), ← h1] at hr
      have e0 : i - ps.length = 0 := by
        have : i - ps.length < 1 := (List.getElem?_eq_some_iff.mp hp).1
        omega
      rw [e0] at hp hr
      cases hp
      cases hr
      exact ht
theorem GDeeds.kp {K : PySem.W.Frag} {dF : Addr} {xs : List V} {H H' : Hp} (e : Kp H H') (h : GDeeds K dF xs H) : GDeeds K dF xs H' := by
  obtain ⟨ps, ds, h0, h1, h2, h3⟩ := h
  exact ⟨ps, ds, h0, h1, h2, fun i p r hp hr => DeedV.kp e (h3 i p r hp hr)⟩
theorem manyT_eq (n : Nat) : manyT n = "many " ++ numS n := by
  refine TL.ext_tl ?_
  unfold manyT
  have e : TL.tl ("many " : Str) = TL.tl ("many" : Str) ++ [32] := by decide +kernel
  rw [TL.join_eq, TL.tl_join, sp_tl, TL.tl_append, e]
  show TL.tl ("many" : Str) ++ ([32] ++ TL.tl (numS n)) = _
  rw [List.append_assoc]
theorem el_ifT {t : TT} {ta tb : TE} {σ : L2.St} {H : Hp} {xs : List V} (h : EvT t σ H true) (h1 : EvL ta σ H xs) : EvL (tIf t ta tb) σ H xs := fun H1 e Q q => h H1 e _ fun H2 e2 => ite_T rfl (h1 H2 (e.trans e2) _ fun p H3 n3 e3 h3 => q p H3 (fresh_back e2 n3) (e2.trans e3) h3)
theorem el_ifF {t : TT} {ta tb : TE} {σ : L2.St} {H : Hp} {xs : List V} (h : EvT t σ H false) (h1 : EvL tb σ H xs) : EvL (tIf t ta tb) σ H xs := fun H1 e Q q => h H1 e _ fun H2 e2 => ite_F rfl (h1 H2 (e.trans e2) _ fun p H3 n3 e3 h3 => q p H3 (fresh_back e2 n3) (e2.trans e3) h3)
theorem el_listT {K : PySem.W.Frag} {t : TE} {σ : L2.St} {H : Hp} {p : Addr} {xs : List V} (ha : Ev t σ H (.ref p)) (h : SqT K H p xs) : EvL (tCB (rListS K) (tCons t tNil)) σ H xs := fun H1 e Q q =>
  ha H1 e _ fun H2 e2 => ⟨p, xs, rfl, .inr (ex_t (e.trans e2) h), fun l hl => q l _ (fresh_back e2 hl) (e2.trans (Ex.new hl)) upd_same⟩
end Hs
namespace Hs
open PySem PySem.Spec PyProof.Rows L2 Evl
theorem ev_allB {K : PySem.W.Frag} {te : TE} {σ : L2.St} {H : Hp} {bs : List Bool} (h : EvL te σ H (bs.map V.bl)) : Ev (tCB (rAll K) (tCons te tNil)) σ H (.bl (bs.all id)) := fun H1 e Q q => h H1 e _ fun p H2 _ e2 h2 => ⟨p, bs, rfl, sq_of h2, q H2 e2⟩
section
variable {P : Program} {w : World} {K : PySem.W.Frag} {mg : Str → Option Value} {base : Heap} {f dF : Addr} {fd : FuncData}
def spLaw (K : PySem.W.Frag) : Sp := fun vs H Q _ => ∃ (a : Addr) (ns : List Int), vs = [.ref a] ∧ SqL K H a (ns.map V.int) ∧ ns.length ≤ 63 ∧ ∀ H', Q (.bl true) H'
abbrev sLaw : Stmt := top 27
theorem scLaw : FnScope ["_law_script", "_law_bag_here", "_law_step", "_law_deed", "_law_text", "_law_rows", "_law_some", "_law_k", "_law_one_here"] ["_law_script"] (defScope sLaw) := ⟨rfl, rfl, rfl, by decide +kernel, rfl, by decide +kernel, by decide +kernel⟩
theorem ok_law (F : FnP K "law" sLaw f fd) (TF : ∀ x ∈ formsL, ∃ tk, PySem.W.nsIn K dF x.1 = some (some (.str x.2 tk))) (O__law_bag : Own P w K mg base 1 "_law_bag" ["_law_script"] (spBag K)) (O__law_pull : Own P w K mg base 1 "_law_pull" ["_law_bag_here", "_law_many"] spPull) (O__law_wide_deed : Own P w K mg base 4 "_law_wide_deed" ["_law_bag_here"] (spWideD K dF)) (O__law_row_text : Own P w K mg base 1 "_law_row_text" ["_law_deed"] (spLRow K)) (O__law_is_plain : Own P w K mg base 1 "_law_is_plain" ["_law_deed"] (spPlain K))
    (O_read_deed : Own P w K mg base 6 "read_deed" ["text"] (spReadDeed K dF)) (O_deed_text : Own P w K mg base 5 "deed_text" ["deed"] (spDText K)) (O__law_same : Own P w K mg base 6 "_law_same" ["_law_got", "_law_due"] (spSame K 6)) (g_range : mg "range" = none) (g_len : mg "len" = none) (g_str : mg "str" = none) (g_tuple : mg "tuple" = none) (g_list : mg "list" = none) (g_all : mg "all" = none) : FnOk P w K mg base CX0 7 f fd ["_law_script"] (spLaw K) := by
  have nd := scLaw.nd
  refine F.ok scLaw (fun vs H Q E h => ?_) (fun cdv A outer s H vs Q E hr h => ⟨_, PSs.nox (pss_cons (ps_set (i := 1) nd rfl (.inr rfl) (Hs.pe_own O__law_bag hr (by first | decide | omega) (by rfl) (pa_cons (pv 0) pa_nil)))
  (pss_cons (ps_for PassesOwn.never rfl (pi_range1 (by rfl) g_range (pa_cons pe_int pa_nil)) (pg_name (i := 2) nd rfl (.inl rfl)) (pss_cons (ps_set (i := 3) nd rfl (.inl rfl) (Hs.pe_own O__law_wide_deed hr (by first | decide | omega) (by rfl) (pa_cons (pv 1) pa_nil)))
  (pss_cons (ps_set (i := 4) nd rfl (.inl rfl) (Hs.pe_own O__law_row_text hr (by first | decide | omega) (by rfl) (pa_cons (pv 3) pa_nil)))
  (Evl.pss_cut (ps_if (pt_cmpR op_eq (Hs.pe_own O__law_pull hr (by first | decide | omega) (by rfl) (pa_cons (pv 1) (pa_cons pe_int pa_nil))) pe_int (nomark _)) (pss_cons (ps_setLc (i := 5) (own := [("_law_k", 7)]) rfl nd rfl rfl (sw_true rfl rfl rfl (by decide +kernel)) (pi_range1 (by rfl) g_range (pa_cons (Hs.pe_own O__law_pull hr (by first | decide | omega) (by rfl) (pa_cons (pv 1) (pa_cons pe_int pa_nil))) pa_nil)) (blkOk_by (N := ["_law_script", "_law_bag_here", "_law_step", "_law_deed", "_law_text", "_law_rows", "_law_some", "_law_k", "_law_one_here"]) (sc := defScope (Hs.top 27)) (by decide +kernel)) (fun _ _ _ _ _ => (pg_name (i := 7) nd rfl (Or.inl rfl))) (fun _ _ _ _ _ => pts_nil) (fun _ _ _ _ _ => (Hs.pe_own O__law_wide_deed hr (by first | decide | omega) (by rfl) (pa_cons (pv 1) pa_nil))))
  (pss_cons (ps_set (i := 3) nd rfl (.inl rfl) (pe_tup (pa_cons pe_str (pa_cons (pe_callTy call_tuple_of (by rfl) g_tuple (by decide +kernel) (pa_cons (pv 5) pa_nil)) pa_nil))))
  (pss_one (ps_set (i := 4) nd rfl (.inl rfl) (pe_join pe_str (pe_op op_cat (pe_lst (pa_cons (pe_op op_add_str pe_str (pe_callTy call_str_int (by rfl) g_str (by decide +kernel) (pa_cons (pe_callB (r := Evl.rLenS K) call_len_seq (by rfl) g_len PySem.boot_len (pa_cons (pv 5) pa_nil)) pa_nil))) pa_nil)) (pe_lc (own := [("_law_one_here", 8)]) rfl nd (pi_list (pv 5)) (blkOk_by (N := ["_law_script", "_law_bag_here", "_law_step", "_law_deed", "_law_text", "_law_rows", "_law_some", "_law_k", "_law_one_here"]) (sc := defScope (Hs.top 27)) (by decide +kernel)) (fun _ _ _ _ _ => (pg_name (i := 8) nd rfl (Or.inl rfl))) (fun _ _ _ _ _ => pts_nil) (fun _ _ _ _ _ => (Hs.pe_own O__law_row_text hr (by first | decide | omega) (by rfl) (pa_cons (pv 8) pa_nil)))))))))) pss_nil)
  (pss_cons (ps_if (pt_not (pt_val (Hs.pe_own O__law_same hr (by first | decide | omega) (by rfl) (pa_cons (Hs.pe_own O_read_deed hr (by first | decide | omega) (by rfl) (pa_cons (pv 4) pa_nil)) (pa_cons (pv 3) pa_nil))))) (pss_one (ps_ret pe_bl)) pss_nil)
  (pss_cons (ps_set (i := 6) nd rfl (.inl rfl) (pe_ifExp (pt_cmpR op_eq (pe_ix (r := rIxT K) ix_tup (pv 3) pe_int (fun _ _ => rfl)) pe_str (nomark _)) (pe_callTy (r := Evl.rListS K) call_list_of (by rfl) g_list (by decide +kernel) (pa_cons (pe_ix (r := rIxT K) ix_tup (pv 3) pe_int (fun _ _ => rfl)) pa_nil)) (pe_lst (pa_cons (pv 3) pa_nil))))
  (pss_one (ps_if (PW.pt (pw_and (pt_val (pe_callB (r := rAll K) (cr_all rfl) (by rfl) g_all (by decide +kernel) (pa_cons (pe_lc (own := [("_law_one_here", 8)]) rfl nd (pi_list (pv 6)) (blkOk_by (N := ["_law_script", "_law_bag_here", "_law_step", "_law_deed", "_law_text", "_law_rows", "_law_some", "_law_k", "_law_one_here"]) (sc := defScope (Hs.top 27)) (by decide +kernel)) (fun _ _ _ _ _ => (pg_name (i := 8) nd rfl (Or.inl rfl))) (fun _ _ _ _ _ => pts_nil) (fun _ _ _ _ _ => (Hs.pe_own O__law_is_plain hr (by first | decide | omega) (by rfl) (pa_cons (pv 8) pa_nil)))) pa_nil))) (pw_and1 (pt_not (pt_val (Hs.pe_own O__law_same hr (by first | decide | omega) (by rfl) (pa_cons (Hs.pe_own O_deed_text hr (by first | decide | omega) (by rfl) (pa_cons (pv 3) pa_nil)) (pa_cons (pv 4) pa_nil)))))))) (pss_one (ps_ret pe_bl)) pss_nil))))))))
  (pss_one (ps_ret (Hs.pe_own O__law_same hr (by first | decide | omega) (by rfl) (pa_cons (Hs.pe_own O_read_deed hr (by first | decide | omega) (by rfl) (pa_cons pe_str pa_nil)) (pa_cons (pe_tup (pa_cons pe_str (pa_cons pe_int (pa_cons pe_int (pa_cons pe_int (pa_cons pe_int (pa_cons pe_str pa_nil))))))) pa_nil))))))), ?_⟩)
  · obtain ⟨a, ns, rfl, _⟩ := h
    rfl
  · obtain ⟨a, ns, rfl, hS, hl63, k⟩ := h
    refine q_call (ea_cons (ev_var rfl) ea_nil) fun H1 e1 => ⟨a, ns, rfl, ex_l e1 hS, hl63, fun b l H2 nb nl B0 e2 => ?_⟩
    refine q_forR1 (n := 8) (ea_cons ev_c ea_nil) (by decide) (fun i σ' H' => BagAt H' b l ns (2000 * i) ∧ ∃ v2 v3 v4 v5 v6, σ' = [some (.ref a), some (.ref b), v2, v3, v4, v5, v6, none, none]) ?_ ?_ ?_
    · intro H3 e3
      exact ⟨B0.ext e3 (by omega), none, none, none, none, none, rfl⟩
    · rintro i σ' H' hi ⟨B, v2, v3, v4, v5, v6, rfl⟩
      have hi8 : i < 8 := by omega
      refine q_call (ea_cons (ev_var rfl) ea_nil) fun H3 e3 => ⟨b, l, ns, 2000 * i, rfl, B.ext e3 (Nat.le_refl _), by omega, fun p d H4 ok ft sh hd B4 k4 => ?_⟩
      refine q_call (ea_cons (ev_var rfl) ea_nil) fun H5 e5 => ⟨p, d, rfl, DeedV.ext e5 hd, ok, fun H6 e6 => ?_⟩
      have B6 := B4.ext (e5.trans e6) (Nat.le_refl _)
      have hd6 := DeedV.ext (e5.trans e6) hd
      refine q_cut (M := fun σ' H' => ∃ (p : Addr) (dd : DD) (v5 : Option V), σ' = [some (.ref a), some (.ref b), some (.int (i : Int)), some (.ref p), some (.str dd.text), v5, v6, none, none] ∧ dd.ok ∧ dd.fit K dF ∧ (match dd with | .one d => d.shape | .many ds => ∀ d ∈ ds, d.shape) ∧ DDV K H' p dd ∧ BagAt H' b l ns (2000 * i + 1900)) ?_ ?_
      · refine ⟨_, rfl, b, l, ns, 2000 * i + 200, 4, rfl, B6, by omega, by decide, by decide, fun v H7 p7 q7 B7 k7 => ⟨rfl, _, rfl, ?_⟩⟩
        have kp7 : Kp H6 H7 := by
          obtain ⟨ys, hb⟩ := bag_lst B6
          exact Kp.but hb k7
        by_cases hv : v = 0
        · refine ite_T (by simp [hv]) ?_
          refine q_te (lc_drawR (b := b) (l := l) (ns := ns) (j := 7) (vs := [7]) (σ := [some (.ref a), some (.ref b), some (.int (i : Int)), some (.ref p), some (.str d.text), v5, v6, none, none]) (M := 5) (c := 200) (N := 2000 * i + 202) (C := fun _ => True) (G := GDeeds K dF) (fun _ _ _ e h => h.kp e) (by decide) (fun _ => rfl) (fun R r => ?_) (fun _ => ⟨[], [], rfl, rfl, (fun _ h => by cases h), (fun _ _ _ h _ => by cases h)⟩) (fun j xs' H' Q' hj bt Bi kq => ?_) (fun D rs H8 nD hD hl5 _ hG B8 k8 => ?_))
          · refine ⟨_, rfl, b, l, ns, 2000 * i + 200 + 1, 6, rfl, B7, by omega, by decide, by decide, fun v8 H8 p8 q8 B8 k8 => ?_⟩
            have z := r v8.toNat H8 (by omega) trivial B8 k8
            rw [show ((v8.toNat : Nat) : Int) = v8 by omega] at z
            exact z
          · refine ⟨_, rfl, b, l, ns, 2000 * i + 202 + j * 200, rfl, Bi, by omega, fun q d2 H8 ok2 ft2 sh2 hd2 B8 k8 => kq (.ref q) H8 ?_ k8 fun H9 kp g => g.snoc ⟨ok2, ft2, sh2⟩ (hd2.kp kp)⟩
            rw [show 2000 * i + 202 + (j + 1) * 200 = 2000 * i + 202 + j * 200 + 200 by omega]
            exact B8
          · obtain ⟨ps, ds, rfl, g1, g2, g3⟩ := hG
            rw [List.length_map] at hl5 B8
            refine ⟨_, rfl, D, ps.map V.ref, rfl, .inl ⟨sq_of hD, fun c hc => ⟨sz_of (by simp), fun q hq => ?_⟩⟩⟩
            have ec := Ex.new (o := .tup (ps.map V.ref)) hc
            have eq := Ex.new (o := .tup [V.str "many", .ref c]) hq
            have e9 := ec.trans eq
            dsimp only [gName, List.set]
            generalize hH9 : upd (upd H8 c _) q _ = H9
            have hc9 : SqT K H9 c (ps.map V.ref) := by
              rw [← hH9]
              exact ex_t eq (st_of upd_same)
            have hq9 : SqT K H9 q [.str "many", .ref c] := by
              rw [← hH9]
              exact st_of upd_same
            rw [hH9] at e9
            have hps : ∀ (i : Nat) (p : Addr) (d : WD), ps[i]? = some p → ds[i]? = some d → DeedV K H9 p d := fun i p d h1 h2 => DeedV.ext e9 (g3 i p d h1 h2)
            have hDD : DDV K H9 q (.many ds) := ⟨c, ps, hq9, hc9, g1, hps⟩
            have okm : (DD.many ds).ok := ⟨by omega, fun d hd => (g2 d hd).1⟩
            have rl := rows_len okm
            have rc := rows_cnt okm
            have key : EvL (tLc (iList K (tVar 5)) (gName 8) tYes (tCall (spLRow K) [] E0 (tCons (tVar 8) tNil)) [8]) [some (.ref a), some (.ref b), some (.int (i : Int)), some (.ref q), some (.str d.text), some (.ref D), v6, none, none] H9 ((ds.map WD.text).map V.str) := by
              have z := el_lcLs (K := K) (tl := tVar 5) (te := tCall (spLRow K) [] E0 (tCons (tVar 8) tNil)) (j := 8) (vs := [8]) (σ := [some (.ref a), some (.ref b), some (.int (i : Int)), some (.ref q), some (.str d.text), some (.ref D), v6, none, none]) (xs := ps.map V.ref) (a := D) (fun i => V.str (ds.getD i (.plain "" [])).text) (ev_var rfl) (sq_of (e9 _ _ hD)) (by rw [List.length_map]; omega) (fun _ => rfl) (fun j x H10 e10 hj => by
                rw [List.getElem?_map] at hj
                obtain ⟨p', hpj, rfl⟩ := Option.map_eq_some_iff.mp hj
                obtain ⟨d', hdj⟩ : ∃ z, ds[j]? = some z := ⟨_, List.getElem?_eq_getElem (by rw [← g1]; exact (List.getElem?_eq_some_iff.mp hpj).1)⟩
                have eg : ds.getD j (.plain "" []) = d' := by rw [List.getD_eq_getElem?_getD, hdj] <;> rfl
                rw [eg]
                exact ev_call (ea_cons (ev_var rfl) ea_nil) fun H11 e11 Q11 q11 E11 => ⟨p', d', rfl, DeedV.ext (e10.trans e11) (hps j p' d' hpj hdj), (g2 d' (List.mem_of_getElem? hdj)).1, q11⟩)
              rw [List.length_map, g1, given_mapA (g := fun d : WD => V.str d.text) (d := .plain "" [])] at z
              rw [List.map_map]
              exact z
            have first : Ev (tOp (fun x y H Q => ∃ i j, x = V.str i ∧ y = V.str j ∧ i.length + j.length ≤ sizeLine ∧ Q (V.str (i ++ j)) H) (tC (.str "many ")) (tCB (fun xs H Q => ∃ i, xs = [V.int i] ∧ i.natAbs.log2 < 1920 ∧ Q (V.str (Str.ofString (toString i))) H) (tCons (tCB (rLenS K) (tCons (tVar 5) tNil)) tNil))) [some (.ref a), some (.ref b), some (.int (i : Int)), some (.ref q), some (.str d.text), some (.ref D), v6, none, none] H9 (.str (manyT ds.length)) := fun H10 e10 Q10 q10 => by
              refine ⟨_, rfl, D, ps.map V.ref, rfl, .inl (sq_of (e10 _ _ (e9 _ _ hD))), ((ps.map V.ref).length : Int), rfl, log_int (by rw [List.length_map]; omega), "many ", numS ((ps.map V.ref).length : Int), rfl, rfl, sz_of ?_, ?_⟩
              · have z1 : ("many " : Str).length = 5 := by decide +kernel
                have z2 := numS_len (n := ((ps.map V.ref).length : Int)) (by rw [List.length_map]; omega)
                omega
              · rw [List.length_map, g1]
                have z := manyT_eq ds.length
                have q11 := q10 H10 (Ex.refl _)
                rw [z] at q11
                exact q11
            have lj : EvL (tOp rCat (tLst (tCons (tOp (fun x y H Q => ∃ i j, x = V.str i ∧ y = V.str j ∧ i.length + j.length ≤ sizeLine ∧ Q (V.str (i ++ j)) H) (tC (.str "many ")) (tCB (fun xs H Q => ∃ i, xs = [V.int i] ∧ i.natAbs.log2 < 1920 ∧ Q (V.str (Str.ofString (toString i))) H) (tCons (tCB (rLenS K) (tCons (tVar 5) tNil)) tNil))) tNil)) (tLc (iList K (tVar 5)) (gName 8) tYes (tCall (spLRow K) [] E0 (tCons (tVar 8) tNil)) [8])) [some (.ref a), some (.ref b), some (.int (i : Int)), some (.ref q), some (.str d.text), some (.ref D), v6, none, none] H9 ((DD.many ds).rows.map V.str) :=
              el_catL (xs := [.str (manyT ds.length)]) (el_lst (ea_cons first ea_nil) (by simp)) key (by simp; omega)
            have q1 : ("\n" : Str).length = 1 := by decide +kernel
            refine s_asg (ev_jn (K := K) (k := 1300) lj rl (by rw [q1]; have := Nat.mul_le_mul rc (Nat.le_refl 1301); omega)) fun H10 e10 => ?_
            refine ⟨q, .many ds, _, rfl, okm, fun d hd => (g2 d hd).2.1, fun d hd => (g2 d hd).2.2, DDV.ext e10 hDD, B8.ext (e9.trans e10) (by omega)⟩
        · refine ite_F (by simp [hv]) ?_
          have et : d.text = (DD.one d).text := by
            refine TL.ext_tl ?_
            unfold DD.text DD.rows
            rw [TL.join_eq, TL.tl_join]
            rfl
          refine ⟨p, .one d, v5, ?_, ok, ft, sh, DeedV.kp kp7 hd6, B7.ext (Ex.refl _) (by omega)⟩
          rw [← et]
          rfl
      · rintro σ7 H7 ⟨q, dd, v5', rfl, okd, ftd, shd, hdd, B7⟩
        refine q_when (b := false) (fun H8 e8 Q' q' => ?_) (fun ht => Bool.noConfusion ht) (fun _ H8 e8 => ?_)
        · exact ⟨_, rfl, dd, rfl, okd, ftd, fun r H9 e9 hr => ⟨_, rfl, .ref r, .ref q, rfl, sm_dd okd hr (DDV.ext (e8.trans e9) hdd), fun H10 e10 => ⟨true, rfl, q' H10 (e9.trans e10)⟩⟩⟩
        · obtain ⟨ps, ds, hlist, g1, g2, g3⟩ : ∃ (ps : List Addr) (ds : List WD), EvL (tIf (tTest (tOp rEq (tOp (rIxT K) (tVar 3) (tC (.int 0))) (tC (.str "many")))) (tCB (rListS K) (tCons (tOp (rIxT K) (tVar 3) (tC (.int 1))) tNil)) (tLst (tCons (tVar 3) tNil))) [some (.ref a), some (.ref b), some (.int (i : Int)), some (.ref q), some (.str dd.text), v5', v6, none, none] H8 (ps.map V.ref) ∧ ps.length = ds.length ∧ ds.length ≤ 20 ∧ ∀ (i : Nat) (p : Addr), ps[i]? = some p → ∃ d, ds[i]? = some d ∧ d.ok ∧ d.shape ∧ DeedV K H8 p d := by
            cases dd with
            | one d =>
              obtain ⟨wd, xs, hs, nm⟩ := DeedV.head hdd okd
              refine ⟨[q], [d], el_ifF (et_is (et_test (ev_op (ev_op (ev_var rfl) ev_c (rv_ixT (v := .str wd) (ex_t e8 hs) (atI_nat (xs := .str wd :: xs) (j := 0) rfl))) ev_c (rv_eq rfl))) (by simp [nm])) (el_lst (ea_cons (ev_var rfl) ea_nil) (by simp)), rfl, by simp, fun j p' hj => ?_⟩
              match j, hj with
              | 0, hj =>
                cases hj
                exact ⟨d, rfl, okd, shd, DeedV.ext e8 hdd⟩
              | j + 1, hj => cases hj
            | many ds =>
              obtain ⟨c, ps, h1, h2, h3, h4⟩ := hdd
              refine ⟨ps, ds, el_ifT (et_is (et_test (ev_op (ev_op (ev_var rfl) ev_c (rv_ixT (v := .str "many") (ex_t e8 h1) rfl)) ev_c (rv_eq rfl))) (by simp)) (el_listT (ev_op (ev_var rfl) ev_c (rv_ixT (v := .ref c) (ex_t e8 h1) rfl)) (ex_t e8 h2)), h3, okd.1, fun j p' hj => ?_⟩
              obtain ⟨d', hdj⟩ : ∃ z, ds[j]? = some z := ⟨_, List.getElem?_eq_getElem (by rw [← h3]; exact (List.getElem?_eq_some_iff.mp hj).1)⟩
              exact ⟨d', hdj, okd.2 d' (List.mem_of_getElem? hdj), shd d' (List.mem_of_getElem? hdj), DeedV.ext e8 (h4 j p' d' hj hdj)⟩
          refine q_asgL hlist fun S H9 nS e9 hS9 => ?_
          have allp : EvT (tB (tCB (rAll K) (tCons (tLc (iList K (tVar 6)) (gName 8) tYes (tCall (spPlain K) [] E0 (tCons (tVar 8) tNil)) [8]) tNil))) [some (.ref a), some (.ref b), some (.int (i : Int)), some (.ref q), some (.str dd.text), v5', some (.ref S), none, none] H9 ((ds.map WD.plainB).all id) := by
            have z := el_lcLs (K := K) (tl := tVar 6) (te := tCall (spPlain K) [] E0 (tCons (tVar 8) tNil)) (j := 8) (vs := [8]) (σ := [some (.ref a), some (.ref b), some (.int (i : Int)), some (.ref q), some (.str dd.text), v5', some (.ref S), none, none]) (xs := ps.map V.ref) (a := S) (fun i => V.bl (ds.getD i (.plain "" [])).plainB) (ev_var rfl) (sq_of hS9) (by rw [List.length_map]; omega) (fun _ => rfl) (fun j x H10 e10 hj => by
              rw [List.getElem?_map] at hj
              obtain ⟨p', hpj, rfl⟩ := Option.map_eq_some_iff.mp hj
              obtain ⟨d', hdj, ok', sh', hd'⟩ := g3 j p' hpj
              have eg : ds.getD j (.plain "" []) = d' := by rw [List.getD_eq_getElem?_getD, hdj] <;> rfl
              rw [eg]
              exact ev_call (ea_cons (ev_var rfl) ea_nil) fun H11 e11 Q11 q11 E11 => ⟨p', d', rfl, DeedV.ext ((e9.trans e10).trans e11) hd', ok', sh', q11⟩)
            rw [List.length_map, g1, given_mapA (g := fun d : WD => V.bl d.plainB) (d := .plain "" [])] at z
            have z2 : (ds.map fun d : WD => V.bl d.plainB) = (ds.map WD.plainB).map V.bl := by
              rw [List.map_map]
              rfl
            rw [z2] at z
            exact et_B (ev_allB z)
          have e79 := (e8.trans e9)
          refine s_when (b := false) (et_is (et_and (b := false) allp fun _ H10 e10 Q' q' => ?_) (Bool.and_false _)) (fun ht => Bool.noConfusion ht) (fun _ H10 e10 => ?_)
          · exact ⟨_, rfl, q, dd, rfl, DDV.ext (e79.trans e10) hdd, okd, fun H11 e11 => ⟨_, rfl, .str dd.text, .str dd.text, rfl, .inl ⟨rfl, rfl⟩, fun H12 e12 => ⟨true, rfl, q' H12 (e11.trans e12)⟩⟩⟩
          · exact ⟨B7.ext (e79.trans e10) (by omega), _, _, _, _, _, rfl⟩
    · rintro σ' H' ⟨B, v2, v3, v4, v5, v6, rfl⟩
      obtain ⟨tk, htk⟩ := TF ("pane", "nnnns") (by decide +kernel)
      have ok0 : (WD.plain "pane" [.int 0, .int 0, .int 1, .int 1, .str ""]).ok := by
        refine ⟨by decide +kernel, by decide +kernel, fun x hx => ?_, by decide⟩
        simp only [List.mem_cons, List.not_mem_nil, or_false] at hx
        rcases hx with rfl | rfl | rfl | rfl | rfl | rfl
        · exact (words_ok "pane" (by decide +kernel)).1
        · exact th_int (by decide)
        · exact th_int (by decide)
        · exact th_int (by decide)
        · exact th_int (by decide)
        · exact (sifts_ok "" (by decide +kernel)).1
      have ft0 : (WD.plain "pane" [.int 0, .int 0, .int 1, .int 1, .str ""]).fit K dF := by
        refine fit_of (by decide +kernel) htk (by decide +kernel) ?_
        have e : ("nnnns" : Str).cps.toList = [110, 110, 110, 110, 115] := by decide +kernel
        rw [e]
        exact .cons (rd_int (by decide)) (.cons (rd_int (by decide)) (.cons (rd_int (by decide)) (.cons (rd_int (by decide)) (.cons (sifts_ok "" (by decide +kernel)).2 .nil))))
      have et : ("pane 0 0 1 1 -" : Str) = (DD.one (.plain "pane" [.int 0, .int 0, .int 1, .int 1, .str ""])).text := by decide +kernel
      refine ⟨DD.one (.plain "pane" [.int 0, .int 0, .int 1, .int 1, .str ""]), congrArg (fun t => [V.str t]) et, ok0, ft0, fun r H2 e2 hr => ⟨sz_of (by simp), fun t ht => ?_⟩⟩
      have et := Ex.new (o := .tup [V.str "pane", .int 0, .int 0, .int 1, .int 1, .str ""]) ht
      refine ⟨.ref r, .ref t, rfl, sm_flats (d := 4) (ex_t et hr) (st_of upd_same) (fun x hx => ?_) (by simp), fun H3 e3 => k H3⟩
      exact th_flat (ok0.2.2.1 x hx)
end
end Hs
namespace Hs
open PySem PySem.Spec PyProof.Rows L2 Evl
theorem facts {P : Program} {w : World} {K : PySem.W.Frag} {h : Heap} {mg : Str → Option Value} {f : Addr} (hP : (P.main.file : Str) = "/claim/cut.py") (hPs : (P.main.scope.names.lookup ("super" : Str)).isSome = false) (X : K.In h) (G : h.Ns mainGlobals mg) (hfa : mg ("law" : Str) = some (.ref f)) (c : SaysY fa fn tb [] [] exB w h K) :
    ∃ (fd : FuncData), (∀ (s : Shared) (v : Value), BindsTo s fd ⟨[v], []⟩ [("_law_script", v)]) ∧ ∀ base : Heap, FnOk P w K mg base CX0 7 f fd ["_law_script"] (spLaw K) := by
  have cd := c.x.t.d
  obtain ⟨fd_is_number, F_is_number⟩ : ∃ fd, FnP K "is_number" sIsNum (He.ga K "is_number") fd := cd.def_ 0 (d := dsIsNum) rfl
  have m_is_number := He.glo_ok X G (cd.fact 0 (f := .glo "is_number") rfl)
  obtain ⟨fd_thing_text, F_thing_text⟩ : ∃ fd, FnP K "thing_text" sThT (He.ga K "thing_text") fd := cd.def_ 1 (d := dsThT) rfl
  have m_thing_text := He.glo_ok X G (cd.fact 1 (f := .glo "thing_text") rfl)
  obtain ⟨fd_words_text, F_words_text⟩ : ∃ fd, FnP K "words_text" sWords (He.ga K "words_text") fd := cd.def_ 2 (d := dsWords) rfl
  have m_words_text := He.glo_ok X G (cd.fact 2 (f := .glo "words_text") rfl)
  obtain ⟨fd_row_text, F_row_text⟩ : ∃ fd, FnP K "row_text" sRowT (He.ga K "row_text") fd := cd.def_ 3 (d := dsRowT) rfl
  have m_row_text := He.glo_ok X G (cd.fact 3 (f := .glo "row_text") rfl)
  obtain ⟨fd_read_thing, F_read_thing⟩ : ∃ fd, FnP K "read_thing" sReadTh (He.ga K "read_thing") fd := cd.def_ 4 (d := dsReadTh) rfl
  have m_read_thing := He.glo_ok X G (cd.fact 4 (f := .glo "read_thing") rfl)
  obtain ⟨fd_read_numbers, F_read_numbers⟩ : ∃ fd, FnP K "read_numbers" sReadNs (He.ga K "read_numbers") fd := cd.def_ 5 (d := dsReadNs) rfl
  have m_read_numbers := He.glo_ok X G (cd.fact 5 (f := .glo "read_numbers") rfl)
  obtain ⟨fd_read_choices, F_read_choices⟩ : ∃ fd, FnP K "read_choices" sReadCh (He.ga K "read_choices") fd := cd.def_ 6 (d := dsReadCh) rfl
  have m_read_choices := He.glo_ok X G (cd.fact 6 (f := .glo "read_choices") rfl)
  obtain ⟨fd_read_row, F_read_row⟩ : ∃ fd, FnP K "read_row" sReadRow (He.ga K "read_row") fd := cd.def_ 7 (d := dsReadRow) rfl
  have m_read_row := He.glo_ok X G (cd.fact 7 (f := .glo "read_row") rfl)
  obtain ⟨fd_deed_rows, F_deed_rows⟩ : ∃ fd, FnP K "deed_rows" sDRows (He.ga K "deed_rows") fd := cd.def_ 8 (d := dsDRows) rfl
  have m_deed_rows := He.glo_ok X G (cd.fact 8 (f := .glo "deed_rows") rfl)
  obtain ⟨fd_deed_text, F_deed_text⟩ : ∃ fd, FnP K "deed_text" sDText (He.ga K "deed_text") fd := cd.def_ 9 (d := dsDText) rfl
  have m_deed_text := He.glo_ok X G (cd.fact 9 (f := .glo "deed_text") rfl)
  obtain ⟨fd_read_from, F_read_from⟩ : ∃ fd, FnP K "read_from" sReadFrom (He.ga K "read_from") fd := cd.def_ 10 (d := dsReadFrom) rfl
  have m_read_from := He.glo_ok X G (cd.fact 10 (f := .glo "read_from") rfl)
  obtain ⟨fd_read_deed, F_read_deed⟩ : ∃ fd, FnP K "read_deed" sReadDeed (He.ga K "read_deed") fd := cd.def_ 11 (d := dsReadDeed) rfl
  have m_read_deed := He.glo_ok X G (cd.fact 11 (f := .glo "read_deed") rfl)
  obtain ⟨fd__law_same, F__law_same⟩ : ∃ fd, FnP K "_law_same" sSame (He.ga K "_law_same") fd := cd.def_ 12 (d := dsSame) rfl
  have m__law_same := He.glo_ok X G (cd.fact 12 (f := .glo "_law_same") rfl)
  obtain ⟨fd__law_pull, F__law_pull⟩ : ∃ fd, FnP K "_law_pull" sPull (He.ga K "_law_pull") fd := cd.def_ 13 (d := dsPull) rfl
  have m__law_pull := He.glo_ok X G (cd.fact 13 (f := .glo "_law_pull") rfl)
  obtain ⟨fd__law_bag, F__law_bag⟩ : ∃ fd, FnP K "_law_bag" sBag (He.ga K "_law_bag") fd := cd.def_ 14 (d := dsBag) rfl
  have m__law_bag := He.glo_ok X G (cd.fact 14 (f := .glo "_law_bag") rfl)
  obtain ⟨fd__law_one, F__law_one⟩ : ∃ fd, FnP K "_law_one" sOne (He.ga K "_law_one") fd := cd.def_ 15 (d := dsOne) rfl
  have m__law_one := He.glo_ok X G (cd.fact 15 (f := .glo "_law_one") rfl)
  obtain ⟨fd__law_wide_number, F__law_wide_number⟩ : ∃ fd, FnP K "_law_wide_number" sWideN (He.ga K "_law_wide_number") fd := cd.def_ 16 (d := dsWideN) rfl
  have m__law_wide_number := He.glo_ok X G (cd.fact 16 (f := .glo "_law_wide_number") rfl)
  obtain ⟨fd__law_word, F__law_word⟩ : ∃ fd, FnP K "_law_word" sWordL (He.ga K "_law_word") fd := cd.def_ 17 (d := dsWordL) rfl
  have m__law_word := He.glo_ok X G (cd.fact 17 (f := .glo "_law_word") rfl)
  obtain ⟨fd__law_wide_deed, F__law_wide_deed⟩ : ∃ fd, FnP K "_law_wide_deed" sWideD (He.ga K "_law_wide_deed") fd := cd.def_ 18 (d := dsWideD) rfl
  have m__law_wide_deed := He.glo_ok X G (cd.fact 18 (f := .glo "_law_wide_deed") rfl)
  obtain ⟨fd__law_row_text, F__law_row_text⟩ : ∃ fd, FnP K "_law_row_text" sLRow (He.ga K "_law_row_text") fd := cd.def_ 19 (d := dsLRow) rfl
  have m__law_row_text := He.glo_ok X G (cd.fact 19 (f := .glo "_law_row_text") rfl)
  obtain ⟨fd__law_is_plain, F__law_is_plain⟩ : ∃ fd, FnP K "_law_is_plain" sPlain (He.ga K "_law_is_plain") fd := cd.def_ 20 (d := dsPlain) rfl
  have m__law_is_plain := He.glo_ok X G (cd.fact 20 (f := .glo "_law_is_plain") rfl)
  obtain ⟨fd_law, F_law⟩ : ∃ fd, FnP K "law" sLaw (He.ga K "law") fd := cd.def_ 21 (d := dsLaw) rfl
  have m_law := He.glo_ok X G (cd.fact 21 (f := .glo "law") rfl)
  have m_ShadeError := He.glo_ok X G (cd.fact 22 (f := .glo "ShadeError") rfl)
  have m_FORMS := He.glo_ok X G (cd.fact 23 (f := .glo "FORMS") rfl)
  have g_len := He.free_ok X G (cd.fact 24 (f := .free "len") rfl)
  have g_list := He.free_ok X G (cd.fact 25 (f := .free "list") rfl)
  have g_int := He.free_ok X G (cd.fact 26 (f := .free "int") rfl)
  have g_str := He.free_ok X G (cd.fact 27 (f := .free "str") rfl)
  have g_bool := He.free_ok X G (cd.fact 28 (f := .free "bool") rfl)
  have g_tuple := He.free_ok X G (cd.fact 29 (f := .free "tuple") rfl)
  have g_isinstance := He.free_ok X G (cd.fact 30 (f := .free "isinstance") rfl)
  have g_all := He.free_ok X G (cd.fact 31 (f := .free "all") rfl)
  have g_range := He.free_ok X G (cd.fact 32 (f := .free "range") rfl)
  have g_zip := He.free_ok X G (cd.fact 33 (f := .free "zip") rfl)
  have g_min := He.free_ok X G (cd.fact 34 (f := .free "min") rfl)
  obtain ⟨es_FORMS, n_FORMS, D_FORMS⟩ : ∃ es n, KDict K w (He.ga K "FORMS") es n := c.x.t.tab 0
  have ef : f = He.ga K "law" := by
    have e := hfa.symm.trans m_law
    cases e
    rfl
  subst ef
  have x0 : (strB (PySem.W.nsIn K (He.ga K "FORMS") "lamp") "nnnnn" && (strB (PySem.W.nsIn K (He.ga K "FORMS") "post") "nnnn" && (strB (PySem.W.nsIn K (He.ga K "FORMS") "pane") "nnnns" && (strB (PySem.W.nsIn K (He.ga K "FORMS") "move") "wnnn" && (strB (PySem.W.nsIn K (He.ga K "FORMS") "switch") "n" && (strB (PySem.W.nsIn K (He.ga K "FORMS") "drop") "wn" && (strB (PySem.W.nsIn K (He.ga K "FORMS") "look") "nnnnn" && (strB (PySem.W.nsIn K (He.ga K "FORMS") "strike") "n" && (strB (PySem.W.nsIn K (He.ga K "FORMS") "settle") "nn"))))))))) = true := c.x.more
  obtain ⟨xm_flamp, x0⟩ := He.ba x0
  obtain ⟨xm_fpost, x0⟩ := He.ba x0
  obtain ⟨xm_fpane, x0⟩ := He.ba x0
  obtain ⟨xm_fmove, x0⟩ := He.ba x0
  obtain ⟨xm_fswitch, x0⟩ := He.ba x0
  obtain ⟨xm_fdrop, x0⟩ := He.ba x0
  obtain ⟨xm_flook, x0⟩ := He.ba x0
  obtain ⟨xm_fstrike, x0⟩ := He.ba x0
  have xm_fsettle := x0
  have hb := FunD.bindsA (ps := ["_law_script"]) F_law (fun _ _ _ _ _ _ us hl => match us, hl with | [_], _ => rfl)
  refine ⟨_, fun s v => hb s [v] rfl, fun base => ?_⟩
  have TF : ∀ x ∈ formsL, ∃ tk, PySem.W.nsIn K (He.ga K "FORMS") x.1 = some (some (.str x.2 tk)) := fun x hx => by
    simp only [formsL, List.mem_cons, List.not_mem_nil, or_false] at hx
    rcases hx with rfl | rfl | rfl | rfl | rfl | rfl | rfl | rfl | rfl
    · exact strB_ok xm_flamp
    · exact strB_ok xm_fpost
    · exact strB_ok xm_fpane
    · exact strB_ok xm_fmove
    · exact strB_ok xm_fswitch
    · exact strB_ok xm_fdrop
    · exact strB_ok xm_flook
    · exact strB_ok xm_fstrike
    · exact strB_ok xm_fsettle
  have O_is_number := own_of F_is_number m_is_number (ok_isNum (P := P) (w := w) (mg := mg) (base := base) F_is_number g_len g_str g_int) (fun _ _ _ _ _ _ us hl => match us, hl with | [_], _ => rfl)
  have O_thing_text := own_of F_thing_text m_thing_text (ok_thT (P := P) (w := w) (mg := mg) (base := base) F_thing_text g_str) (fun _ _ _ _ _ _ us hl => match us, hl with | [_], _ => rfl)
  have O_words_text := own_of F_words_text m_words_text (ok_words (P := P) (w := w) (mg := mg) (base := base) F_words_text O_thing_text) (fun _ _ _ _ _ _ us hl => match us, hl with | [_], _ => rfl)
  have O_row_text := own_of F_row_text m_row_text (ok_rowT (P := P) (w := w) (mg := mg) (base := base) F_row_text O_words_text g_len) (fun _ _ _ _ _ _ us hl => match us, hl with | [_], _ => rfl)
  have O_read_thing := own_of F_read_thing m_read_thing (ok_readTh (P := P) (w := w) (mg := mg) (base := base) F_read_thing O_is_number g_int) (fun _ _ _ _ _ _ us hl => match us, hl with | [_, _], _ => rfl)
  have O_read_numbers := own_of F_read_numbers m_read_numbers (ok_readNs (P := P) (w := w) (mg := mg) (base := base) F_read_numbers O_is_number g_int g_all g_tuple) (fun _ _ _ _ _ _ us hl => match us, hl with | [_], _ => rfl)
  have O_read_choices := own_of F_read_choices m_read_choices (ok_readCh (P := P) (w := w) (mg := mg) (base := base) F_read_choices O_read_numbers g_len g_range g_tuple) (fun _ _ _ _ _ _ us hl => match us, hl with | [_], _ => rfl)
  have O_read_row := own_of F_read_row m_read_row (ok_readRow (P := P) (w := w) (mg := mg) (base := base) F_read_row D_FORMS ⟨m_FORMS, rfl⟩ O_read_choices O_read_thing g_len g_zip) (fun _ _ _ _ _ _ us hl => match us, hl with | [_], _ => rfl)
  have O_deed_rows := own_of F_deed_rows m_deed_rows (ok_dRows (P := P) (w := w) (mg := mg) (base := base) F_deed_rows O_row_text) (fun _ _ _ _ _ _ us hl => match us, hl with | [_], _ => rfl)
  have O_deed_text := own_of F_deed_text m_deed_text (ok_dText (P := P) (w := w) (mg := mg) (base := base) F_deed_text O_deed_rows) (fun _ _ _ _ _ _ us hl => match us, hl with | [_], _ => rfl)
  have O_read_from := own_of F_read_from m_read_from (ok_readFrom (P := P) (w := w) (mg := mg) (base := base) F_read_from O_read_row g_len g_range g_min g_tuple) (fun _ _ _ _ _ _ us hl => match us, hl with | [_, _], _ => rfl)
  have O_read_deed := own_of F_read_deed m_read_deed (ok_readDeed (P := P) (w := w) (mg := mg) (base := base) F_read_deed O_read_from g_len) (fun _ _ _ _ _ _ us hl => match us, hl with | [_], _ => rfl)
  have O__law_same := own_of F__law_same m__law_same (ok_same (P := P) (w := w) (base := base) F__law_same m__law_same g_len g_isinstance g_bool g_int g_str g_list g_tuple g_all g_range 6) (fun _ _ _ _ _ _ us hl => match us, hl with | [_, _], _ => rfl)
  have O__law_pull := own_of F__law_pull m__law_pull (ok_pull (P := P) (w := w) (mg := mg) (base := base) F__law_pull g_len) (fun _ _ _ _ _ _ us hl => match us, hl with | [_, _], _ => rfl)
  have O__law_bag := own_of F__law_bag m__law_bag (ok_bag (P := P) (w := w) (mg := mg) (base := base) F__law_bag g_len g_list) (fun _ _ _ _ _ _ us hl => match us, hl with | [_], _ => rfl)
  have O__law_one := own_of F__law_one m__law_one (ok_one (P := P) (w := w) (mg := mg) (base := base) F__law_one O__law_pull g_len) (fun _ _ _ _ _ _ us hl => match us, hl with | [_, _], _ => rfl)
  have O__law_wide_number := own_of F__law_wide_number m__law_wide_number (ok_wideN (P := P) (w := w) (mg := mg) (base := base) F__law_wide_number O__law_pull) (fun _ _ _ _ _ _ us hl => match us, hl with | [_], _ => rfl)
  have O__law_word := own_of F__law_word m__law_word (ok_wordL (P := P) (w := w) (mg := mg) (base := base) F__law_word O__law_one) (fun _ _ _ _ _ _ us hl => match us, hl with | [_], _ => rfl)
  have O__law_wide_deed := own_of F__law_wide_deed m__law_wide_deed (ok_wideD (P := P) (w := w) (mg := mg) (base := base) F__law_wide_deed TF O__law_pull O__law_one O__law_wide_number O__law_word g_range g_tuple) (fun _ _ _ _ _ _ us hl => match us, hl with | [_], _ => rfl)
  have O__law_row_text := own_of F__law_row_text m__law_row_text (ok_lRow (P := P) (w := w) (mg := mg) (base := base) F__law_row_text g_str) (fun _ _ _ _ _ _ us hl => match us, hl with | [_], _ => rfl)
  have O__law_is_plain := own_of F__law_is_plain m__law_is_plain (ok_plain (P := P) (w := w) (mg := mg) (base := base) F__law_is_plain g_len) (fun _ _ _ _ _ _ us hl => match us, hl with | [_], _ => rfl)
  exact ok_law F_law TF O__law_bag O__law_pull O__law_wide_deed O__law_row_text O__law_is_plain O_read_deed O_deed_text O__law_same g_range g_len g_str g_tuple g_list g_all
end Hs
open PySem PySem.W PySem.Calls PyProof.Rows
theorem PySem.Challenge.cw_hueshade_k53_deeds_as_texts_holds : PySem.Challenge.rw_hueshade_k53_deeds_as_texts.Holds := by
  w_on; o_law
  refine HandSHeadRun.head_any (r := OpenLaw.row PySem.Challenge.rw_hueshade_k53_deeds_as_texts) (q := view (OpenLaw.row PySem.Challenge.rw_hueshade_k53_deeds_as_texts).prog [27]) (H := Hs.hk) (ob := Hs.ob) (M := 20000) (loose := Hs.others) (d := HandSHeadRun.topDef (OpenLaw.row PySem.Challenge.rw_hueshade_k53_deeds_as_texts).prog 27) (kwd := []) Hs.ob_eq
    (by kernel_rfl) (fun s => by kernel_rfl) Hs.run (by kernel_rfl) (by kernel_rfl) (by kernel_rfl) (by rfl) (by first | assumption | decide +kernel) (by decide +kernel) ⟨rfl, rfl, rfl, rfl, rfl, by decide +kernel⟩ ?hw ?hc
  case hw => w_witness2
  case hc =>
    refine L2.walk_ofE (l := PySem.Challenge.rw_hueshade_k53_deeds_as_texts) (n := 63) (k := 7) (x := "_law_script") (CX := L2.CX0) rfl (by decide) (by kernel_rfl) ⟨rfl, by decide, by decide⟩ ?F (fun _ _ _ _ z => z)
    intro w mg fa h Y G hmg0
    obtain ⟨K, KX, c⟩ := Y
    have hmg : mg ("law" : PySem.Str) = some (.ref fa) := by
      have e : (HandSHeadRun.topDef (OpenLaw.row PySem.Challenge.rw_hueshade_k53_deeds_as_texts).prog 27).name = ("law" : PySem.Str) := by kernel_rfl
      rw [← e]
      exact hmg0
    obtain ⟨fd, hb, hF⟩ := Hs.facts (P := (PySem.Challenge.rw_hueshade_k53_deeds_as_texts).prog) (w := w) (by kernel_rfl) (by kernel_rfl) KX G hmg c
    exact ⟨K, fd, Hs.spLaw K, KX, hb, fun H a ns hl _ hS => ⟨a, ns, rfl, hS, hl, fun _ => rfl⟩, fun base _ _ => hF base⟩
