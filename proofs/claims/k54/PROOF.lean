import PyProof.Rows.All
import Wide.All
import OpenK.AllK
import Wide.FinOn
import HandS.ForMost
import HandS.ForExc
import HandS.Wide
import HandS.IsInst
import HandS.Lambda
import HandS.Defaults
import HandS.Evl
import HandS.Codes
import HandS.Style
import HandS.More
import HandS.FStr
import HandS.TryMany
import HandS.ExcField
import HandS.NoneIn
import HandS.ExcInit
import HandS.ExcSuper
import KE.KExcSuper
import KE.KExcInit
import KE.DatumOrd
import HandS.Zip
import HandS.Walk
import HandS.Rev
import HandS.TupAny
import HandS.DictComp
import HandS.CallLocal
import HandS.Star
import HandS.Flow
import HandS.Nested
import HandS.TupMul
import HandS.Head0
import HandS.Head1
import HandS.Head2
import HandS.HeadEnd
import HandS.HeadHook1
import HandS.HeadHook2
import HandS.HeadHook3
import HandS.HeadHook4
import HandS.HeadWalk
import HandS.SortKw
import KE.KSortKeySt
import PySem.Challenge.RW_hueshade_k54_texts_of_no_deed
import KE.KUnpackStar
import HandS.StrMore
import HandS.RaiseMore
import HandS.ExcOwn
import HandS.ExcValue
import HandS.Deep
set_option Elab.async false
set_option linter.all false
set_option maxRecDepth 100000
set_option maxHeartbeats 0
namespace Hs
open PySem PySem.Spec PyProof.Rows L2 Evl
/-! ### own words -/
/-- // by any divisor but nought, below 2 ^ 9000 -/
def CDivG (i j : Int) : Prop := j ≠ 0 ∧ (j.natAbs.log2 < 9000 ∨ i.natAbs.log2 < 13400)
theorem noPylong_x {x y : Int} (h : x.natAbs.log2 < 13400) : Builtin.divisionGoesByPylong x y = false := by
  have key : (if x == 0 then 0 else x.natAbs.log2 / 30 + 1) ≤ 450 := by
    by_cases hx : (x == 0) = true
    · rw [if_pos hx]
      exact Nat.zero_le _
    · rw [if_neg hx]
      omega
  show (decide ((if y == 0 then 0 else y.natAbs.log2 / 30 + 1) > 300) && decide ((if x == 0 then 0 else x.natAbs.log2 / 30 + 1) > (if y == 0 then 0 else y.natAbs.log2 / 30 + 1) + 150)) = false
  generalize (if y == 0 then 0 else y.natAbs.log2 / 30 + 1) = b
  generalize (if x == 0 then 0 else x.natAbs.log2 / 30 + 1) = a at key
  by_cases hb : b > 300
  · rw [decide_eq_false (show ¬ a > b + 150 by omega), Bool.and_false]
  · rw [decide_eq_false hb, Bool.false_and]
theorem op_fdivG {X : Cx} : OpR X (binaryOp .FloorDiv) (rI CDivG fun i j => .int (i.fdiv j)) := opI fun i j _ _ _ _ _ hc q => floordiv_int hc.1 q (.inl (hc.2.elim PyProof.noPylong_of_log2 noPylong_x))
theorem divG {i j : Int} {b : Nat} (h : j ≠ 0) (hb : j.natAbs < 2 ^ b) (h0 : 0 < b) (h9 : b ≤ 9000) : CDivG i j := ⟨h, .inl (Nat.lt_of_lt_of_le (PySem.Flt.log2_lt_of h0 hb) h9)⟩
theorem divX {i j : Int} {b : Nat} (h : j ≠ 0) (hb : i.natAbs < 2 ^ b) (h0 : 0 < b) (h9 : b ≤ 13400) : CDivG i j := ⟨h, .inr (Nat.lt_of_lt_of_le (PySem.Flt.log2_lt_of h0 hb) h9)⟩
theorem mul64 {i j : Int} (ha : i.natAbs < 2 ^ 64) (hb : j.natAbs < 2 ^ 64) : CMulW i j := wide_mul ha hb (by decide) (by decide) (by decide)
theorem modP {i j : Int} (h : 0 < j) : 0 ≤ i.fmod j ∧ i.fmod j < j := by
  rw [Int.fmod_eq_emod_of_nonneg i (Int.le_of_lt h)]
  exact ⟨Int.emod_nonneg i (by omega), Int.emod_lt_of_pos i h⟩
/-- an own def by its promise -/
structure Own (P : Program) (w : World) (K : PySem.W.Frag) (mg : Str → Option Value) (base : Heap) (k : Nat) (x : Str) (ps : List Str) (sp : Sp) : Prop where
  ex : ∃ (f : Addr) (fd : FuncData), FnOk P w K mg base CX0 k f fd ps sp ∧ mg x = some (.ref f) ∧ PySem.W.keepIn K (.ref f) = true ∧ Binds K fd ps []
theorem pe_own {X : Cx} {k j : Nat} {x : Str} {ps : List Str} {sp : Sp} {e : Expr} {es : List Expr} {t : TA} {p pos : Pos} (O : Own X.prog X.w X.K X.mg X.base k x ps sp) (hr : Room j X.A) (hk : k ≤ j) (hg : Gl X x) (ha : PA X (e :: es) t)
    (hdb : (x == ("__debug__" : Str)) = false := by decide) (he : starEach (e :: es) X.env = (false, eval e X.env) :: starEach es X.env := by rfl) (hpl : (backTo pos (starEach es X.env)).any (·.1) = false := by rfl) :
    PE X (.Call (.Name x p) (e :: es) [] pos) (tCall sp [] E0 t) := by
  obtain ⟨f, fd, F, m, kp, b⟩ := O.ex
  exact pe_call F (hr.mono hk) hg m kp b .nil pass0 ha hdb he hpl
abbrev FnP (K : PySem.W.Frag) (x : Str) (st : Stmt) (f : Addr) (fd : FuncData) : Prop := FunD K x x (defArgs st) (defBody st) (defScope st) [] [] f fd
theorem own_of {P : Program} {w : World} {K : PySem.W.Frag} {mg : Str → Option Value} {base : Heap} {k : Nat} {x : Str} {ps : List Str} {sp : Sp} {st : Stmt} {f : Addr} {fd : FuncData} (F : FnP K x st f fd) (m : mg x = some (.ref f)) (G : FnOk P w K mg base CX0 k f fd ps sp)
    (h : ∀ (kV doc pm : Value) (an : Option Addr) (cdv ct : Value) (us : List Value), us.length = ps.length → bindArgs (PySem.W.fnOf x x (defArgs st) (defBody st) (defScope st) .none kV doc pm an cdv ct) ⟨us, []⟩ = pure (ps.zip us)) : Own P w K mg base k x ps sp :=
  ⟨f, fd, G, m, F.kp, F.bindsN h⟩
theorem ev_ix {K : PySem.W.Frag} {σ : L2.St} {H : Hp} {b : Addr} {xs : List V} {i : Int} {v : V} {j : Nat} (hs : σ[j]? = some (some (.ref b))) (hb : H b = some (.lst xs)) (ha : atI xs i = some v) : Ev (tOp (rIxL K) (tVar j) (tC (.int i))) σ H v :=
  ev_op (ev_var hs) ev_c (rv_ixL (sq_of hb) ha)
theorem ev_ixt {K : PySem.W.Frag} {σ : L2.St} {H : Hp} {b : Addr} {xs : List V} {i : Int} {v : V} {j : Nat} (hs : σ[j]? = some (some (.ref b))) (hb : SqT K H b xs) (ha : atI xs i = some v) : Ev (tOp (rIxT K) (tVar j) (tC (.int i))) σ H v :=
  ev_op (ev_var hs) ev_c (rv_ixT hb ha)
theorem ite_T {c : Bool} {A B : Prop} (hc : c = true) (h : A) : if c = true then A else B := by
  rw [if_pos hc]
  exact h
theorem ite_F {c : Bool} {A B : Prop} (hc : c = false) (h : B) : if c = true then A else B := by
  rw [hc, if_neg Bool.false_ne_true]
  exact h
/-! ### the bag that draws -/
structure BagAt (H : Hp) (b l : Addr) (ns : List Int) (n : Nat) : Prop where
  ex : ∃ (i : Nat) (z s : Int) (c : Nat), H b = some (.lst [.ref l, .int i, .int z, .int s, .int c]) ∧ i ≤ ns.length ∧ 0 ≤ s ∧ s < 2147483647 ∧ c ≤ n
  ls : H l = some (.lst (ns.map V.int))
  ne : b ≠ l
/-- all but the object at b stays -/
def But (H H' : Hp) (b : Addr) : Prop := ∀ a o, H a = some o → a ≠ b → H' a = some o
theorem But.refl {H : Hp} {b : Addr} : But H H b := fun _ _ e _ => e
theorem But.trans {H H1 H2 : Hp} {b : Addr} (x : But H H1 b) (y : But H1 H2 b) : But H H2 b := fun a o e n => y a o (x a o e n) n
theorem But.ex {H H1 H2 : Hp} {b : Addr} (x : But H H1 b) (y : Ex H1 H2) : But H H2 b := fun a o e n => y a o (x a o e n)
theorem But.of {H H1 : Hp} {b : Addr} (y : Ex H H1) : But H H1 b := fun a o e _ => y a o e
theorem But.upd {H H1 : Hp} {b : Addr} {u : HO} (x : But H H1 b) : But H (upd H1 b u) b := fun a o e n => by
  rw [upd_ne n]
  exact x a o e n
theorem BagAt.ext {H H1 : Hp} {b l : Addr} {ns : List Int} {n m : Nat} (B : BagAt H b l ns n) (e : Ex H H1) (h : n ≤ m) : BagAt H1 b l ns m := by
  obtain ⟨⟨i, z, s, c, h1, h2, h3, h4, h5⟩, h6, h7⟩ := B
  exact ⟨⟨i, z, s, c, e _ _ h1, h2, h3, h4, Nat.le_trans h5 h⟩, e _ _ h6, h7⟩
def spPull : Sp := fun vs H Q _ => ∃ (b l : Addr) (ns : List Int) (n : Nat) (many : Int), vs = [.ref b, .int many] ∧ BagAt H b l ns n ∧ n < 1000000 ∧ 0 < many ∧ many < 2 ^ 200 ∧
  ∀ (v : Int) (H' : Hp), 0 ≤ v → v < many → BagAt H' b l ns (n + 1) → But H H' b → Q (.int v) H'
def spBag (K : PySem.W.Frag) : Sp := fun vs H Q _ => ∃ (a : Addr) (ns : List Int), vs = [.ref a] ∧ SqL K H a (ns.map V.int) ∧ ns.length ≤ 63 ∧
  ∀ (b l : Addr) (H' : Hp), H b = none → H l = none → BagAt H' b l ns 0 → Ex H H' → Q (.ref b) H'
end Hs
namespace Hs
open PySem
def top (i : Nat) : Stmt := PySem.Challenge.pw_hueshade_k54_texts_of_no_deed.main.body.getD i (.Pass ⟨0, 0, 0, 0⟩)
end Hs
namespace Hs
open PySem PySem.Spec PyProof.Rows L2
/-! ### own error classes whose __init__ begins with super().__init__(..) -/
section
open PySem.W
variable {prog : Program} {w : World} {A : Around} {E : Value → Shared → Prop} {h : Heap} {g : Array GenState} {d : Drawn} {t : Nat} {os : OsState}
variable {nm q : Str} {C N : Addr} {bs bm bmB : List Value} {hdct : Bool} {sn : List Str} {sub : List Value} {ab : Bool} {col : Option Bool} {dd : Option Addr} {k0 k1 k2 k3 k5 : Option Value} {B newId initId : String}
theorem call_mw (FB : ExcBaseFacts B newId initId bmB) {u e t0 : Addr} {rest : List Value} {Q : Value → Shared → Prop}
    (hC : h.get? C = some (excClassObj nm q C N bs bm hdct sn sub ab col dd k0 k1 k2 k3 k5 newId)) (he : h.get? e = some (HandSPX.excO C t0)) (hu : h.get? u = some (kxs_mw initId e)) (hrest : rest.length ≤ sizeLine)
    (hq : ∀ h' t1, (∀ b o, b ≠ e → h.get? b = some o → h'.get? b = some o) → h'.get? e = some (HandSPX.excO C t1) → Q .none ⟨h', g, d, t, os⟩) :
    wpAny (model prog w) A (call (.ref u) rest) Q E ⟨h, g, d, t, os⟩ := by
  refine wpAny_call (codeAny_of_tree ?_)
  show wpAny _ A.in1 (callAny (.ref u) ⟨rest, []⟩) _ _ _
  simp only [callAny]
  refine wpAny_bind (wpAny_load hu ?_)
  simp only [kxs_mw, show (Value.type "method-wrapper" == Value.type "method" || Value.type "method-wrapper" == Value.type "builtin_function_or_method" || Value.type "method-wrapper" == Value.type "method-wrapper") = true by decide, if_true]
  refine KFB.if_so (by decide) ?_
  refine wpAny_bind (ESX.check_bound FB hC he rfl ?_)
  refine wpAny_bind (wpAny_pure (wpAny_pure ?_))
  refine ⟨plainId_quiet FB.init.plain _, codeAny_builtin FB.initEntry ?_⟩
  exact exc_init_tree (cls := .ref C) (t0 := t0) (dv := none) (c2 := .none) (c3 := .none) (b4 := .bool false) he hrest fun h' k e' _ => hq h' _ k e'
end
end Hs
namespace Hs
open PySem PySem.Spec PyProof.Rows L2
/-! ### own errors over any of Python's plain bases -/
/-- what is known of a base of Python's -/
structure BasX (B newId initId : String) (bmB : List Value) : Prop where
  eb : ExcBaseFacts B newId initId bmB
  st : StoreFacts B bmB "object.__setattr__" "object"
  kx : PySem.W.KxsFacts B initId
abbrev tailOf (B : String) : List Value := [.type B, .type "Exception", .type "BaseException", .type "object"]
theorem basV : BasX "ValueError" "ValueError.__new__" "ValueError.__init__" (tailOf "ValueError") := ⟨F.excBase_ValueError, F.store_ValueError, PySem.W.kxs_ValueError⟩
theorem basR : BasX "RuntimeError" "RuntimeError.__new__" "RuntimeError.__init__" (tailOf "RuntimeError") := ⟨F.excBase_RuntimeError, F.store_RuntimeError, PySem.W.kxs_RuntimeError⟩
theorem basL : BasX "LookupError" "LookupError.__new__" "LookupError.__init__" (tailOf "LookupError") := ⟨F.excBase_LookupError, F.store_LookupError, PySem.W.kxs_LookupError⟩
/-- an own class over such a base, as it is written -/
structure OexG (K : PySem.W.Frag) (C : Addr) (newId : String) (bmB : List Value) : Prop where
  cls : ∃ nm q N bs bm sn sub ab col dd k0 k1 k2 k3 k5, K.lookup C = some (excClassObj nm q C N bs bm true sn sub ab col dd k0 k1 k2 k3 k5 newId) ∧ PySem.W.excTail bmB bm = true
  sa : PySem.W.findIn K (.ref C) "__setattr__" = some (some (.builtin "object.__setattr__"))
  exC : PySem.W.subIn K (.ref C) (.type "BaseException") = some true
  tyC : PySem.W.typeIn K (.ref C) = some (.type "type")
  kC : PySem.W.keepIn K (.ref C) = true
section
variable {K : PySem.W.Frag} {C : Addr} {newId : String} {bmB : List Value}
theorem OexG.over (T : OexG K C newId bmB) : PySem.W.excOver K C bmB = true := by
  obtain ⟨nm, q, N, bs, bm, sn, sub, ab, col, dd, k0, k1, k2, k3, k5, hC, ht⟩ := T.cls
  unfold PySem.W.excOver PySem.W.clsIn
  rw [hC]
  show ((C == C) && PySem.W.excTail bmB bm) = true
  simp [ht]
theorem OexG.cd (T : OexG K C newId bmB) : ∃ cd, PySem.W.clsIn K C = some cd ∧ cd.hasDict = true := by
  obtain ⟨nm, q, N, bs, bm, sn, sub, ab, col, dd, k0, k1, k2, k3, k5, hC, ht⟩ := T.cls
  refine ⟨{ name := nm, bases := bs, mro := .ref C :: bm, ns := N, qualname := q, hasDict := true, slotNames := sn, subclasses := sub, abstract := ab, collection := col, hasDel := false }, ?_, rfl⟩
  unfold PySem.W.clsIn
  rw [hC] <;> rfl
theorem taker_no {f : Str} (h : PySem.W.findIn K (.ref C) f = some none) : PySem.W.takerIn K C f = some none := by
  unfold PySem.W.takerIn
  rw [h] <;> rfl
end
section
open Builtin Builtin.ObjectAttr
variable {prog : Program} {w : World} {A : Around} {R : Result → Shared → Prop} {hp : Heap} {g : Array GenState} {d : Drawn} {t : Nat} {os : OsState} {K : PySem.W.Frag} {C x : Addr} {B newId initId : String} {bmB : List Value}
/-- the first field: the dict is made -/
theorem put_new (bx : BasX B newId initId bmB) (T : OexG K C newId bmB) (kin : K.In hp) {fl : Str} {tk : Tok} {u : Value} {fv : Array Value} (hx : hp.get? x = some { cls := .ref C, data := .fields fv }) (hno : PySem.W.findIn K (.ref C) fl = some none)
    (fin : ∀ hq tq dx, (∀ b o, b ≠ x → hp.get? b = some o → hq.get? b = some o) → hp.objs.size ≤ dx → dx ≠ x → hq.get? x = some { cls := .ref C, dict := some dx, data := .fields fv } → hq.Ns1 dx (fun y => if y = fl then some u else none) → R (.ok (.ret .none)) ⟨hq, g, d, tq, os⟩) :
    codeAny (model prog w) A (.call (.builtin "object.__setattr__") ⟨[.ref x, .str fl tk, u], []⟩) R ⟨hp, g, d, t, os⟩ := by
  obtain ⟨cd, hcd, hdc⟩ := T.cd
  have lk : PySem.W.Looks (model prog w) hp (classData C) cd := PySem.W.looks_clsIn kin hcd
  have far : x ≠ hp.objs.size := Nat.ne_of_lt (Heap.lt_size hx)
  refine PySem.W.osa_openX (s := ⟨hp, g, d, t, os⟩) (od := none) (ox := { cls := .ref C, data := .fields fv }) bx.st kin ⟨hx, rfl, rfl, trivial⟩ T.over (taker_no hno) fun bb => ?_
  obtain ⟨c1, c2, c3, c4, c5, c6, c7, c8, c9, c10, c11⟩ := cd
  dsimp only at hdc
  subst hdc
  unfold storeInOwnDict ownDictForStores
  repeat (first | with_reducible refine HandSPX.store_in_new ?_ ?_ | with_reducible refine wpAny_loadPart_at hx ?_ | with_reducible refine lk.at ?_ | wp_step)
  · exact ⟨_, #[], _, (Heap.get?_update_ne _ _ _ _ far.symm).trans (Heap.get?_push_at rfl rfl), rfl, fun z hz => absurd hz (by simp), fun _ => rfl⟩
  · intro hq tq hn sm
    have old : (hp.push { cls := .type "dict", data := .dict #[] }).get? x = some { cls := .ref C, data := .fields fv } := Heap.get?_push_of_some _ hx
    refine fin hq tq hp.objs.size (fun b o nb ho => ?_) (Nat.le_refl _) far.symm ((sm.2 x far).trans (Heap.get?_update_self _ old rfl)) hn
    rw [sm.2 b (Nat.ne_of_lt (Heap.lt_size ho)), Heap.get?_update_ne _ _ _ _ nb]
    exact Heap.get?_push_of_some _ ho
/-- a further field -/
theorem put_more (bx : BasX B newId initId bmB) (T : OexG K C newId bmB) (kin : K.In hp) {fl : Str} {tk : Tok} {u : Value} {fv : Array Value} {dx : Addr} {m0 : Str → Option Value} {nl : List Str} (hx : hp.get? x = some { cls := .ref C, dict := some dx, data := .fields fv }) (hns : hp.Ns1 dx m0) (hw : Within m0 nl) (hz : nl.length ≤ 1000) (hno : PySem.W.findIn K (.ref C) fl = some none)
    (fin : ∀ hq tq, (∀ b o, b ≠ dx → hp.get? b = some o → hq.get? b = some o) → hq.Ns1 dx (fun y => if y = fl then some u else m0 y) → R (.ok (.ret .none)) ⟨hq, g, d, tq, os⟩) :
    codeAny (model prog w) A (.call (.builtin "object.__setattr__") ⟨[.ref x, .str fl tk, u], []⟩) R ⟨hp, g, d, t, os⟩ := by
  obtain ⟨cd, hcd, hdc⟩ := T.cd
  have lk : PySem.W.Looks (model prog w) hp (classData C) cd := PySem.W.looks_clsIn kin hcd
  obtain ⟨oD, q1, q2, hoD, q3, q4⟩ := hns.count hw
  refine PySem.W.osa_openX (s := ⟨hp, g, d, t, os⟩) (od := some oD) (ox := { cls := .ref C, dict := some dx, data := .fields fv }) bx.st kin ⟨hx, rfl, rfl, hoD⟩ T.over (taker_no hno) fun bb => ?_
  obtain ⟨c1, c2, c3, c4, c5, c6, c7, c8, c9, c10, c11⟩ := cd
  dsimp only at hdc
  subst hdc
  unfold storeInOwnDict ownDictForStores
  repeat (first | with_reducible refine OEX.store_in_old hns hw hz ?_ | with_reducible refine wpAny_loadPart_at hx ?_ | with_reducible refine lk.at ?_ | wp_step)
  exact fun hq tq hn sm => fin hq tq (fun b o nb ho => (sm.2 b nb).trans ho) hn
end
section
variable {X : Cx} {pins : List (Addr × Obj)} {σ : L2.St} {H : Hp} {s : Shared} {a C dx : Addr} {fl : Str} {y : V} {u : Value} {fs : List (Str × V)} {Q : Unit → Shared → Prop} {E : Value → Shared → Prop} {A : Around} {B newId initId : String} {bmB : List Value}
theorem set_new (bx : BasX B newId initId bmB) (T : OexG X.K C newId bmB) (I : Inv X pins σ H s) (ea : H a = some (exo a C none)) (hno : PySem.W.findIn X.K (.ref C) fl = some none) (ry : RelV y u)
    (k : ∀ dx s', H dx = none → dx ≠ a → Inv X pins σ (upd (upd H dx (exd dx [(fl, y)])) a (exo a C (some dx))) s' → Q () s') : wpAny (model X.prog X.w) A (setAttr (.ref a) fl u) Q E s := by
  obtain ⟨t1, ho⟩ := exo_at I.hok ea
  obtain ⟨hp, g, d, t, os⟩ := s
  refine PySem.W.set_plain (od := none) I.kIn (ox := { cls := .ref C, dict := none, data := .fields #[.ref t1, .none, .none, .none, .bool false, .none] }) ⟨ho, rfl, rfl, trivial⟩ T.sa ?_
  refine put_new bx T I.kIn ho hno fun hq tq dx stay dn dne hx hn => ?_
  have fresh : H dx = none := I.hok.fresh dn
  have nda : ∀ {b : Addr}, H b = none → b ≠ a := fun nb z => by
    rw [z, ea] at nb
    cases nb
  have ndx : ∀ {b : Addr} {ob : Obj}, hp.get? b = some ob → b ≠ dx := fun qq => Nat.ne_of_lt (Nat.lt_of_lt_of_le (Heap.lt_size qq) dn)
  have two : ∀ {b : Addr} {v : HO}, H b = some v → exo a C none ≠ v → upd (upd H dx (exd dx [(fl, y)])) a (exo a C (some dx)) b = some v := fun {b v} hb hne => by
    rw [upd_ne (at_ne ea hb hne), upd_ne (ne_of_none hb fresh)]
    exact hb
  have un : Un X.fs [] H (upd (upd H dx (exd dx [(fl, y)])) a (exo a C (some dx))) hp hq := by
    constructor
    · exact fun b o hb nb _ _ => stay b o (nda nb) hb
    · exact fun b o hb nb _ _ => ⟨o.slots, stay b o (nda nb) hb⟩
    · intro b o hb nb _
      rw [upd_ne (nda nb), upd_ne (ndx hb)]
      exact nb
    · intro b o hb _
      by_cases e : b = a
      · rw [e]
        exact ⟨_, hx⟩
      · exact ⟨o, stay b o e hb⟩
    · exact fun b xs hb => two hb exo_tup
    · exact fun b o v hb => two hb exo_frz
    · intro b ps hb
      refine ⟨#[], ?_⟩
      rw [two hb exo_tbl, Array.append_empty]
  refine k dx _ fresh dne (I.un (t' := tq) un fun b o hb => ?_)
  by_cases e1 : b = a
  · rw [e1, upd_same] at hb
    cases hb
    rw [e1]
    exact exo_ok hx
  · rw [upd_ne e1] at hb
    by_cases e2 : b = dx
    · rw [e2, upd_same] at hb
      cases hb
      rw [e2]
      exact exd_ok hn (relO_put (fs := []) ry fun _ => True.intro)
    · rw [upd_ne e2] at hb
      refine (I.hok b o hb).stay (fun c v hc hv => stay c v ?_ hv) (fun c hc => two hc exo_own) (fun c xs hc => two hc exo_tup)
      rcases hc with rfl | hc
      · exact e1
      · exact at_ne ea hc exo_own
theorem set_more (bx : BasX B newId initId bmB) (T : OexG X.K C newId bmB) (I : Inv X pins σ H s) (ea : H a = some (exo a C (some dx))) (ed : H dx = some (exd dx fs)) (hl : fs.length ≤ 900) (hno : PySem.W.findIn X.K (.ref C) fl = some none) (ry : RelV y u)
    (k : ∀ s', Inv X pins σ (upd H dx (exd dx ((fl, y) :: fs))) s' → Q () s') : wpAny (model X.prog X.w) A (setAttr (.ref a) fl u) Q E s := by
  obtain ⟨t1, ho⟩ := exo_at I.hok ea
  obtain ⟨mA, hns, rel⟩ := exd_at I.hok ed
  obtain ⟨oD, _, _, hoD, _, _⟩ := hns.count (within_of rel)
  obtain ⟨hp, g, d, t, os⟩ := s
  refine PySem.W.set_plain (od := some oD) I.kIn (ox := { cls := .ref C, dict := some dx, data := .fields #[.ref t1, .none, .none, .none, .bool false, .none] }) ⟨ho, rfl, rfl, hoD⟩ T.sa ?_
  refine put_more bx T I.kIn ho hns (within_of rel) (by rw [List.length_map]; omega) hno fun hq tq stay hn => k _ ?_
  refine I.write (t' := tq) (x := dx) (e := dx) (by rw [ed]; exact True.intro) (.inl rfl) stay ?_ (exd_ok hn (relO_put ry rel))
  obtain ⟨oq, _, _, hoq, _⟩ := hn
  exact ⟨oq, hoq⟩
end
/-- self.f = e, of an error that is being made -/
def tPut (K : PySem.W.Frag) (newId : String) (bmB : List Value) (fl : Str) (to te : TE) : TS := fun D σ H => te σ H fun y H1 => to σ H1 fun x H2 => ∃ a C : Addr, x = .ref a ∧ OexG K C newId bmB ∧ PySem.W.findIn K (.ref C) fl = some none ∧
  ((H2 a = some (exo a C none) ∧ ∀ dx, H2 dx = none → dx ≠ a → D.nx σ (upd (upd H2 dx (exd dx [(fl, y)])) a (exo a C (some dx)))) ∨
    ∃ (dx : Addr) (fs : List (Str × V)), (H2 a = some (exo a C (some dx)) ∧ H2 dx = some (exd dx fs) ∧ fs.length ≤ 900) ∧ D.nx σ (upd H2 dx (exd dx ((fl, y) :: fs))))
theorem ps_put {X : Cx} {o e : Expr} {to te : TE} {fl : Str} {p' pos : Pos} {B newId initId : String} {bmB : List Value} (bx : BasX B newId initId bmB) (ho : PE X o to) (he : PE X e te) (hs : swapsWith e (some (.Attribute o fl p')) pos.line X.env = pure false := by rfl) : PS X (.Assign [.Attribute o fl p'] e pos) (tPut X.K newId bmB fl to te) := by
  refine ⟨fun pins s σ H D I h => ?_⟩
  refine plainObj_wpAny_Assign_Attribute (thn (he.run pins s σ H _ I h) fun v s1 ⟨y, H1, I1, r1, q1⟩ => thn (ho.run pins s1 σ H1 _ I1 q1) fun ux s2 ⟨x, H2, I2, r2, hh⟩ => ?_) hs
  obtain ⟨a, C, rfl, T, hno, q⟩ := hh
  obtain rfl : ux = Value.ref a := r2
  rcases q with ⟨ea, q⟩ | ⟨dx, fs, ⟨ea, ed, hl⟩, q⟩
  · exact set_new bx T I2 ea hno r1 fun dx s' n ne J => ⟨σ, _, J, q dx n ne⟩
  · exact set_more bx T I2 ea ed hl hno r1 fun s' J => ⟨σ, _, J, q⟩
end Hs
namespace Hs
open PySem PySem.Spec PyProof.Rows L2
/-- what the written part says of an own error class over ValueError, of its __init__ and of what super() asks -/
structure SupC (P : Program) (K : PySem.W.Frag) (mg : Str → Option Value) (C c cc : Addr) (B newId initId : String) (bmB : List Value) : Prop where
  ox : OexG K C newId bmB
  code : ∃ (ccl : Value) (cdd : Option Addr) (vs : Array Value) (ccs : Array (Option Value)) (file : Str) (tf : Tok), K.lookup c = some ⟨ccl, cdd, .fields vs, ccs⟩ ∧ vs[2]? = some (.str file tf) ∧ ((P.main.file : Str) == file) = true
  cell : ∃ (cl : Value) (cld : Option Addr) (csl : Array (Option Value)), K.lookup cc = some ⟨cl, cld, .cell (some (.ref C)), csl⟩
  me : PySem.W.mroIn K C (.ref C) = some true
  sup : PySem.W.ks_superIn K C C "__init__" = some (some (.builtin initId))
  ve : PySem.W.subIn K (.ref C) (.type B) = some true
  op : PySem.W.nsIn K cStatics "thirdparty.any" = some none
  gs : mg "super" = none
  top : (P.main.scope.names.lookup ("super" : Str)).isSome = false
theorem sup_walk {X : Cx} {σ : L2.St} {H : Hp} {s : Shared} {C f c cc a : Addr} {fd : FuncData} {oc : Value} {od : Option Addr} {osl : Array (Option Value)} {ar : Arg} {body : List Stmt} {p0 p1 p2 p3 pos0 : Pos} {e : Expr} {ta : TA} {R : Hp → Prop} {pl : Sem Bool}
    {B newId initId : String} {bmB : List Value} (bx : BasX B newId initId bmB) (T : SupC X.prog X.K X.mg C c cc B newId initId bmB) (I : Inv X [] σ H s) (lk : X.K.lookup f = some ⟨oc, od, .func fd, osl⟩) (hp : (fd.params.posonlyargs ++ fd.params.args).head? = some ar)
    (hfu : X.env.func = some f) (hco : X.env.code = .ref c) (hce : X.env.cells.lookup ("__class__" : Str) = some cc) (hks : X.env.kindOf "super" = some .globalImplicit) (hkc : X.env.kindOf "__class__" = some .free) (hN0 : X.N[0]? = some ar.arg) (hl0 : X.env.kindOf ar.arg = some .local)
    (h0 : σ[0]? = some (some (.ref a))) (ea : H a = some (exo a C none)) (hPA : PA X [e] ta) (ht : ta σ H fun us H1 => us.length ≤ 1000 ∧ H1 a = some (exo a C none) ∧ R H1)
    (hst : starEach [e] X.env = [(false, eval e X.env)])
    (hi : interactive X.env = false := by rfl) (hsw : swapsWith (.Call (.Attribute (.Call (.Name "super" p0) [] [] p1) "__init__" p2) [e] [] p3) none pos0.line X.env = pure false := by rfl)
    (he : eval (.Call (.Attribute (.Call (.Name "super" p0) [] [] p1) "__init__" p2) [e] [] p3) X.env = (do
      let ov ← attributeBase (.Call (.Name "super" p0) [] [] p1) "__init__" X.env (eval (.Call (.Name "super" p0) [] [] p1) X.env)
      standAt p2.atName
      let (f, first) ← holding [ov] (getMethod ov "__init__" pl)
      callWith p3 f first (backTo p3 (starEach [e] X.env)) []) := by rfl) :
    _root_.PySem.wpAt (model X.prog X.w) X.A (.func body X.env) (exec (.Expr (.Call (.Attribute (.Call (.Name "super" p0) [] [] p1) "__init__" p2) [e] [] p3) pos0) X.env) (fun fl s' => fl = .next ∧ ∃ H1, Inv X [] σ H1 s' ∧ R H1) X.xe s := by
  obtain ⟨ccl, cdd, vsc, ccs, file, tf, hcode, hv2, hfile⟩ := T.code
  obtain ⟨cl0, cld0, csl0, hcell⟩ := T.cell
  obtain ⟨nm, q, Nn, bs, bm, sn, sub, ab, col, dd, k0, k1, k2, k3, k5, hC, hbm⟩ := T.ox.cls
  have hcl : PySem.W.clsIn X.K C = some { name := nm, bases := bs, mro := .ref C :: bm, ns := Nn, qualname := q, hasDict := true, slotNames := sn, subclasses := sub, abstract := ab, collection := col, hasDel := false } := by unfold PySem.W.clsIn; rw [hC] <;> rfl
  have KX := I.kIn
  obtain ⟨t1, ho⟩ := exo_at I.hok ea
  have hkind := I.ok.kind
  obtain ⟨mb, hb1, hb2⟩ := I.mod.blt
  obtain ⟨m, hns, hloc⟩ := id I.loc
  obtain ⟨u0, ru, lk0⟩ := hloc 0 ar.arg (.ref a) hN0 h0 (.inl hl0)
  obtain rfl : u0 = Value.ref a := ru
  have hself : m ar.arg = some (.ref a) := by
    rcases lk0 with ⟨_, z⟩ | ⟨z | z, _⟩
    · exact z
    · rw [hl0] at z
      cases z
    · rw [hl0] at z
      cases z
  have hDo := KX _ _ hC
  obtain ⟨hp0, g0, d0, tk0, os0⟩ := s
  refine ks_wpAt_Expr_any (ks_wpAt_MethodCall (pl := pl) ?_ he) hi hsw
  refine ks_wpAt_super_base (env := X.env) hks hkc (by decide) hfu (KX _ _ lk) rfl hp hco (KX _ _ hcode) rfl hv2 hfile T.top ?_
  refine PySem.W.ks_loadName_global hkind hks (Calls.loadGlobal_builtin (env := X.env) (by rw [I.ok.glob]; exact I.mod.glob.keeps I.bk) T.gs (by rw [I.ok.blt]; exact hb1.keeps I.bk) ((hb2 "super" (by decide)).trans (by decide +kernel)) ⟨rfl, ?_⟩)
  refine wpAny_loadName_free hkind hkc hce ⟨_, KX _ _ hcell, rfl⟩ ?_
  refine wpAny_loadName_local hkind hl0 hns hself ?_
  refine ks_wpAny_isType_cls hDo rfl ⟨rfl, ?_⟩
  refine ks_wpAny_call_super hDo rfl ho rfl (fun _ z => by cases z) (PySem.W.looks_mroIn KX T.me) fun h1 e1 kp1 => ?_
  have I1 : Inv X [] σ H ⟨h1, g0, d0, tk0, os0⟩ := I.kept (t' := tk0) kp1
  have KX1 := I1.kIn
  obtain ⟨t2, ho1⟩ := exo_at I1.hok ea
  have hI : PySem.W.Looks (model X.prog X.w) h1 (isInstance (.ref a) (.type B)) true := (show PySem.W.InstAt h1 a _ C none from ⟨ho1, rfl, rfl, trivial⟩).type.andThen (PySem.W.looks_subIn KX1 T.ve)
  have hmro : PySem.W.Looks (model X.prog X.w) h1 (mroOf (.ref C)) (.ref C :: bm) := (PySem.W.looks_clsIn KX1 hcl).andThen .now
  have hsupr := T.sup
  unfold PySem.W.ks_superIn at hsupr
  rw [hcl] at hsupr
  have hxC : a ≠ C := fun z => by
    have w1 := KX1 _ _ hC
    rw [← z, ho1] at w1
    cases w1
  refine PySem.W.kxs_getMethod bx.kx e1 (PySem.W.looks_opaque KX1 T.op) hmro rfl KX1 hsupr hI hxC (by decide) ?_
  have kp2 : ∀ b o, h1.get? b = some o → (h1.push (PySem.W.kxs_mw initId a)).get? b = some o := fun b o z => Heap.get?_push_of_some _ z
  have I2 : Inv X [] σ H ⟨h1.push (PySem.W.kxs_mw initId a), g0, d0, tk0 + 1, os0⟩ := I1.kept (t' := tk0 + 1) kp2
  have hu2 : (h1.push (PySem.W.kxs_mw initId a)).get? h1.objs.size = some (PySem.W.kxs_mw initId a) := Heap.get?_push_at rfl rfl
  have nu : H h1.objs.size = none := I1.hok.fresh (Nat.le_refl _)
  have I3 : Inv X [(h1.objs.size, PySem.W.kxs_mw initId a)] σ H ⟨h1.push (PySem.W.kxs_mw initId a), g0, d0, tk0 + 1, os0⟩ := I2.pins_of fun p hp => by
    rcases List.mem_cons.mp hp with z | z
    · subst z
      exact ⟨hu2, nu, fun z => Nat.lt_irrefl _ (z ▸ I1.lt), I1.nofs (Nat.le_refl _), fun v z => by cases z⟩
    · cases z
  show wpAny _ _ (callWith p3 (.ref h1.objs.size) [] (backTo p3 (starEach [e] X.env)) []) _ _ _
  have run := hPA.run p3 _ _ σ H _ I3 ht
  rw [hst] at run ⊢
  refine PySem.W.kxs_callWith (i := initId) (x := a) rfl (Calls.evalArgs_plain (wpAny_mono run (fun us s2 z => ?_) fun _ _ z => z))
  obtain ⟨vs2, H2, I4, r4, hz, ea2, hR⟩ := z
  have hu4 := (I4.pin (h1.objs.size, PySem.W.kxs_mw initId a) (List.mem_append_right _ (List.mem_cons_self ..))).1
  obtain ⟨t4, ho4⟩ := exo_at I4.hok ea2
  have hlen : us.length ≤ sizeLine := by
    rw [← Paired.length r4, sizeLine_eq]
    omega
  obtain ⟨hp4, g4, d4, tk4, os4⟩ := s2
  refine ⟨hu4, call_mw bx.eb (I4.kIn _ _ hC) ho4 hu4 hlen fun h' t5 k5 hx5 => ⟨rfl, H2, ?_, hR⟩⟩
  have J := I4.write (t' := tk4) (x := a) (e := a) (o := exo a C none) (by rw [ea2]; exact True.intro) (.inl rfl) k5 ⟨_, hx5⟩ (exo_ok hx5)
  have eu : upd H2 a (exo a C none) = H2 := by
    funext b
    by_cases hb : b = a
    · rw [hb, upd_same, ea2]
    · rw [upd_ne hb]
  rw [eu] at J
  exact J.pins_of fun p hp => by cases hp
theorem sup_ok {P : Program} {w : World} {K : PySem.W.Frag} {mg : Str → Option Value} {base : Heap} {k : Nat} {N ps : List Str} {C f c cc : Addr} {name qual : Str} {params : Arguments} {p0 p1 p2 p3 pos0 : Pos} {e : Expr} {rest : List Stmt} {scope : Scope}
    {dV kV doc pm ct oc : Value} {an od : Option Addr} {osl : Array (Option Value)} {ar : Arg} {sp : Sp} {pl : Addr → Sem Bool} {B newId initId : String} {bmB : List Value} (bx : BasX B newId initId bmB) (T : SupC P K mg C c cc B newId initId bmB)
    (lk : K.lookup f = some ⟨oc, od, .func (PySem.W.fnX name qual params (.Expr (.Call (.Attribute (.Call (.Name "super" p0) [] [] p1) "__init__" p2) [e] [] p3) pos0 :: rest) scope [("__class__", cc)] dV kV doc pm an (.ref c) ct), osl⟩)
    (hcd : PySem.W.codeIn K (.ref c) qual = true) (S : NdefX.NScope N ps ["__class__"] scope) (hks : scope.names.lookup ("super" : Str) = some .globalImplicit)
    (hp : (params.posonlyargs ++ params.args).head? = some ar) (hN0 : N[0]? = some ar.arg) (hl0 : scope.names.lookup ar.arg = some .local) (len : ∀ vs H Q E, sp vs H Q E → vs.length = ps.length)
    (hbody : ∀ (A : Around) (outer : List Env) (s : Shared) (H : Hp) (vs : List V) (Q : VK) (E : XK), Room k (A.deeper (NdefX.envF ⟨name, qual, params, [], scope, [("__class__", cc)], c⟩ f s.heap.objs.size)) → sp vs H Q E →
      ∃ (a : Addr) (ta : TA) (t : TS), (NdefX.startF N vs [none])[0]? = some (some (.ref a)) ∧ H a = some (exo a C none) ∧ PA (NdefX.ncx CX0 P w K mg base N ⟨name, qual, params, [], scope, [("__class__", cc)], c⟩ f A outer s H E).nox [e] ta ∧
        PSs (NdefX.ncx CX0 P w K mg base N ⟨name, qual, params, [], scope, [("__class__", cc)], c⟩ f A outer s H E).nox rest t ∧
        ta (NdefX.startF N vs [none]) H fun us H1 => us.length ≤ 1000 ∧ H1 a = some (exo a C none) ∧ t { nx := fun _ H' => Q .non H', rt := Q } (NdefX.startF N vs [none]) H1)
    (hst : ∀ env : Env, starEach [e] env = [(false, eval e env)]) (hi : ∀ L : Addr, interactive (NdefX.envF ⟨name, qual, params, [], scope, [("__class__", cc)], c⟩ f L) = false)
    (hsw : ∀ L : Addr, swapsWith (.Call (.Attribute (.Call (.Name "super" p0) [] [] p1) "__init__" p2) [e] [] p3) none pos0.line (NdefX.envF ⟨name, qual, params, [], scope, [("__class__", cc)], c⟩ f L) = pure false)
    (he : ∀ L : Addr, eval (.Call (.Attribute (.Call (.Name "super" p0) [] [] p1) "__init__" p2) [e] [] p3) (NdefX.envF ⟨name, qual, params, [], scope, [("__class__", cc)], c⟩ f L) = (do
      let ov ← attributeBase (.Call (.Name "super" p0) [] [] p1) "__init__" (NdefX.envF ⟨name, qual, params, [], scope, [("__class__", cc)], c⟩ f L) (eval (.Call (.Name "super" p0) [] [] p1) (NdefX.envF ⟨name, qual, params, [], scope, [("__class__", cc)], c⟩ f L))
      standAt p2.atName
      let (ff, first) ← holding [ov] (getMethod ov "__init__" (pl L))
      callWith p3 ff first (backTo p3 (starEach [e] (NdefX.envF ⟨name, qual, params, [], scope, [("__class__", cc)], c⟩ f L))) [])) :
    FnOk P w K mg base CX0 (k + 1) f (PySem.W.fnX name qual params (.Expr (.Call (.Attribute (.Call (.Name "super" p0) [] [] p1) "__init__" p2) [e] [] p3) pos0 :: rest) scope [("__class__", cc)] dV kV doc pm an (.ref c) ct) ps sp := by
  refine ⟨len, fun A outer s H args us vs Q E hr e0 hb r hsp => ?_⟩
  have hl := len _ _ _ _ hsp
  have bk : ∀ b o, base.get? b = some o → s.heap.get? b = some o := fun b o e => (e0.bs b o e).1
  have KX : K.In s.heap := e0.mod.kin.keeps bk
  have lim : s.heap.NoLimit := e0.mod.nolimit.keeps bk
  obtain ⟨cl0, cld0, csl0, hcell⟩ := T.cell
  have CA : NdefX.CellsAt [(("__class__" : Str), cc)] ["__class__"] [none] s.heap H := by
    have bc := e0.mod.kin cc _ hcell
    have z := e0.bs cc _ bc
    have only : ∀ y c', ([(("__class__" : Str), cc)] : List (Str × Addr)).lookup y = some c' → y = "__class__" ∧ c' = cc := fun y c' h => by
      have m := PySem.mem_of_lookup h
      rcases List.mem_cons.mp m with q | q
      · injection q with q1 q2
        exact ⟨q1, q2⟩
      · cases q
    refine ⟨rfl, fun y c' h => ?_, fun x y c' h1 h2 => (only x c' h1).1.trans (only y c' h2).1.symm, fun i y h => ?_⟩
    · obtain ⟨_, rfl⟩ := only y c' h
      exact ⟨z.2, _, _, z.1, rfl⟩
    · cases i with
      | zero =>
        have e : "__class__" = y := Option.some.inj h
        subst e
        exact ⟨cc, by simp [List.lookup], fun v hv => by cases hv⟩
      | succ i => cases h
  obtain ⟨a, ta, t, h0, hHa, hPA, hPS, ht⟩ := hbody A outer s H vs Q E (hr.deeper _) hsp
  refine ks_codeAny_call_defAt (binds := ps.zip us) hr.depth (KX _ _ lk) rfl lim (PySem.W.codeRec_of KX hcd) rfl hb S.nocell (fun ⟨n, _⟩ hy => S.par n (List.of_mem_zip hy).1) (fun h₁ hns kp => ?_) S.co S.gen S.kind
  have I : Inv (NdefX.ncx CX0 P w K mg base N ⟨name, qual, params, [], scope, [("__class__", cc)], c⟩ f A outer s H E).nox [] (NdefX.startF N vs [none]) H { s with heap := h₁, toks := s.toks + (ps.zip us).length } :=
    (NdefX.inv_startN (F := ⟨name, qual, params, [], scope, [("__class__", cc)], c⟩) S hr.hd e0 hl r CA hns kp).wish _
  refine ks_wpAt_execs_cons (ks_wpAt_mono (sup_walk (X := (NdefX.ncx CX0 P w K mg base N ⟨name, qual, params, [], scope, [("__class__", cc)], c⟩ f A outer s H E).nox) (R := fun H1 => t { nx := fun _ H' => Q .non H', rt := Q } (NdefX.startF N vs [none]) H1)
    bx T I lk hp rfl rfl rfl hks (S.frk _ (by simp)) hN0 hl0 h0 hHa hPA ht (hst _) (hi _) (hsw _) (he _)) (fun fl s' z => ?_) fun _ _ z => z.elim)
  obtain ⟨rfl, H1, J, hR⟩ := z
  refine wpAt_of_wpAny (wpAny_mono (hPS.run [] s' _ H1 _ J hR) (fun fl s2 z => ?_) fun _ _ z => z.elim)
  have fin : ∀ {σ' : L2.St} {H' : Hp} {v : V} {u : Value}, Inv (NdefX.ncx CX0 P w K mg base N ⟨name, qual, params, [], scope, [("__class__", cc)], c⟩ f A outer s H E).nox [] σ' H' s2 → RelV v u → Q v H' → CE outer P w H s Q u s2 :=
    fun {σ' H' v u} J rv q => ⟨v, H', J.os, J.bare, J.base, J.hok, rv, q⟩
  cases fl with
  | ret u =>
    obtain ⟨v, σ', H', J, rv, q⟩ := z
    exact fin J rv q
  | next =>
    obtain ⟨σ', H', J, q⟩ := z
    exact fin (v := V.non) (u := Value.none) J rfl q
  | brk =>
    obtain ⟨_, _, _, q⟩ := z
    exact False.elim q
  | cont =>
    obtain ⟨_, _, _, q⟩ := z
    exact False.elim q
end Hs
namespace Hs
open PySem PySem.Spec PyProof.Rows L2 Evl
/-- C(), C's own __init__ keeping sp -/
theorem pmk_oex0 {X : Cx} {CX : CXT} {x : Str} {C fI : Addr} {k : Nat} {fd : FuncData} {ps : List Str} {sp : Sp} {ds : List Value} {dvs : List V} {p pos : Pos} {B newId initId : String} {bmB : List Value} (bx : BasX B newId initId bmB) (T : OexG X.K C newId bmB) (iC : PySem.W.findIn X.K (.ref C) "__init__" = some (some (.ref fI))) (tI : PySem.W.typeIn X.K (.ref fI) = some (.type "function"))
    (F1 : FnOk X.prog X.w X.K X.mg X.base CX k fI fd ps sp) (hr : Room (k + 1) X.A) (hb : Binds X.K fd ps ds) (hd : Vals dvs ds) (hx : Passes CX X (fun _ _ _ => False)) (hg : Gl X x) (hm : X.mg x = some (.ref C))
    (hdb : (x == ("__debug__" : Str)) = false := by decide) : PMk X (.Call (.Name x p) [] [] pos) (tMkO C sp dvs tNil) := by
  intro pins s σ H Q I h
  obtain ⟨nm, q, N, bs, bm, sn, sub, ab, col, dd, k0, k1, k2, k3, k5, hC, hbm⟩ := T.cls
  refine wpAny_Call_Name_kw (ld_glob I hg hm ?_ hdb)
  refine PySem.W.callWith_K0 I.kIn T.kC ?_
  show wpAny _ _ (call (.ref C) []) _ _ _
  obtain ⟨hp, g, dr, tk, os⟩ := s
  have hsz : hp.objs.size ≤ hp.objs.size + 1 := Nat.le_succ _
  have hn : H (hp.objs.size + 1) = none := I.hok.fresh hsz
  have hq := h.2 (hp.objs.size + 1) hn
  have kk : ∀ b o, hp.get? b = some o → ((hp.push (PySem.W.kdv_tup [])).push (PySem.HandSPX.excO C hp.objs.size)).get? b = some o := fun b o e => Heap.get?_push_of_some _ (Heap.get?_push_of_some _ e)
  have hget : ((hp.push (PySem.W.kdv_tup [])).push (PySem.HandSPX.excO C hp.objs.size)).get? (hp.objs.size + 1) = some (PySem.HandSPX.excO C hp.objs.size) := by heap_get
  have I2 : Inv X pins σ (upd H (hp.objs.size + 1) (exo (hp.objs.size + 1) C none)) ⟨(hp.push (PySem.W.kdv_tup [])).push (PySem.HandSPX.excO C hp.objs.size), g, dr, tk, os⟩ :=
    I.laid (t' := tk) (a := hp.objs.size + 1) (o := exo (hp.objs.size + 1) C none) (h' := (hp.push (PySem.W.kdv_tup [])).push (PySem.HandSPX.excO C hp.objs.size)) kk hsz (exo_ok hget)
  have r2 : Vals (V.ref (hp.objs.size + 1) :: ([] ++ dvs)) ([Value.ref (hp.objs.size + 1)] ++ ds) := .cons rfl hd
  have hl : (Value.ref (hp.objs.size + 1) :: [] ++ ds).length = ps.length := by
    have e := r2.length
    rw [F1.len _ _ _ _ hq] at e
    exact e.symm
  refine wpAny_call (PySem.HandSPX.call_own bx.eb (fun Y => PySem.W.excTail_contains Y bm hbm) (I.kIn _ _ hC) (PySem.W.looks_findIn I.kIn iC) (fun self => PySem.W.bind_fn I.kIn self tI) (Nat.zero_le _)
    (codeAny_mono (F1.run _ X.stack _ _ ⟨[Value.ref (hp.objs.size + 1)], []⟩ ([Value.ref (hp.objs.size + 1)] ++ ds) _ _ (fun _ _ _ => False) (hr.make C [] []) (I2.env0.make C [] []) (hb _ [Value.ref (hp.objs.size + 1)] I2.kIn hl) r2 hq) fun r s' hq' => ?_))
  cases r with
  | error er => exact hx pins σ _ _ er s' I2 hq'
  | ok fl =>
    cases fl with
    | ret u =>
      obtain ⟨v, H2, os2, bare2, un2, hok2, rv, ev, d, fs, ea, ed, hd1, q2⟩ := hq'
      subst ev
      obtain ⟨h2, g2, d2, t2, os'⟩ := s'
      exact ⟨rv, mk_end (raises_own T.exC T.tyC) I hsz kk un2 hok2 os2 bare2 ea ed hd1 q2⟩
    | next => exact False.elim hq'
    | brk => exact False.elim hq'
    | cont => exact False.elim hq'
/-- __init__ of an error with its word alone -/
def spErr (C : Addr) (wd : Str) : Sp := fun vs H Q _ => ∃ (a : Addr) (y : V), vs = [.ref a, y] ∧ H a = some (exo a C none) ∧ ∀ dx, H dx = none → dx ≠ a → Q .non (upd (upd H dx (exd dx [("word", .str wd)])) a (exo a C (some dx)))
/-- raise C(): the word in the error's own dict -/
theorem mk_err {C : Addr} {wd : Str} {y : V} {σ : L2.St} {H : Hp} {Q : XK} (h : ∀ d H', Ex H H' → H d = none → H' d = some (.xd [("word", .str wd)]) → Q (.ref C) (some d) H') : tMkO C (spErr C wd) [y] tNil σ H Q := by
  refine ⟨Nat.zero_le _, fun a na => ⟨a, y, rfl, upd_same, fun dx nd ne => ⟨rfl, dx, [("word", .str wd)], upd_same, ?_, ?_, ?_⟩⟩⟩
  · rw [upd_ne ne, upd_same]
  · rw [upd_ne ne] at nd
    exact nd
  · have nd' : H dx = none := by
      rw [upd_ne ne] at nd
      exact nd
    refine h dx _ (fun b o e => ?_) nd' upd_same
    have nb : b ≠ dx := ne_of_none e nd'
    have na' : b ≠ a := ne_of_none e na
    rw [upd_ne nb, del_ne na', upd_ne na', upd_ne nb, upd_ne na']
    exact e
end Hs
namespace Hs
open PySem PySem.Spec PyProof.Rows L2 Evl
/-- an own error class x at C with the word wd alone, as it stands -/
structure ErrF (P : Program) (w : World) (K : PySem.W.Frag) (mg : Str → Option Value) (base : Heap) (k : Nat) (x : Str) (C : Addr) (wd : Str) : Prop where
  ox : ∃ (B newId initId : String) (bmB : List Value), BasX B newId initId bmB ∧ OexG K C newId bmB
  gx : mg x = some (.ref C)
  ini : ∃ (fI : Addr) (fd : FuncData) (ps : List Str) (y : V) (d : Value), PySem.W.findIn K (.ref C) "__init__" = some (some (.ref fI)) ∧ PySem.W.typeIn K (.ref fI) = some (.type "function") ∧ FnOk P w K mg base CX0 k fI fd ps (spErr C wd) ∧ RelV y d ∧ Binds K fd ps [d]
theorem pmk_err {X : Cx} {k j : Nat} {x : Str} {C : Addr} {wd : Str} {p pos : Pos} (Er : ErrF X.prog X.w X.K X.mg X.base k x C wd) (hr : Room j X.A) (hk : k + 1 ≤ j) (hg : Gl X x) (hdb : (x == ("__debug__" : Str)) = false := by decide) :
    PMk X (.Call (.Name x p) [] [] pos) (fun _ H Q => ∀ d H', Ex H H' → H d = none → H' d = some (.xd [("word", .str wd)]) → Q (.ref C) (some d) H') := by
  obtain ⟨fI, fd, ps, y, d, h1, h2, h3, h4, h5⟩ := Er.ini
  obtain ⟨B, newId, initId, bmB, bx, ox⟩ := Er.ox
  intro pins s σ H Q I h
  exact pmk_oex0 bx ox h1 h2 h3 (hr.mono hk) h5 (.cons h4 .nil) (fun _ _ _ _ _ _ _ z => z.elim) hg Er.gx hdb pins s σ H Q I (mk_err h)
/-- the def st of a class's body, closed over __class__ at cc, its code object at c -/
def InitAt (K : PySem.W.Frag) (qual : Str) (st : Stmt) (f c cc : Addr) (dvs : List V) (fd : FuncData) : Prop :=
  ∃ (oc : Value) (od : Option Addr) (dV kV doc pm : Value) (an : Option Addr) (ct : Value) (osl : Array (Option Value)), fd = PySem.W.fnX "__init__" qual (defArgs st) (defBody st) (defScope st) [("__class__", cc)] dV kV doc pm an (.ref c) ct ∧
    K.lookup f = some ⟨oc, od, .func fd, osl⟩ ∧ PySem.W.codeIn K (.ref c) qual = true ∧ DflV K dV dvs
/-- __init__(self, why=..): super().__init__(why); self.word = '..' -/
theorem err_ok {P : Program} {w : World} {K : PySem.W.Frag} {mg : Str → Option Value} {base : Heap} {C f c cc : Addr} {fd : FuncData} {qual wd : Str} {st : Stmt} {y : V} {p0 p1 p2 p3 p4 pos0 p5 p6 p7 p8 : Pos} {kd : Nat} {ar : Arg} {B newId initId : String} {bmB : List Value} (bx : BasX B newId initId bmB) (T : SupC P K mg C c cc B newId initId bmB) (I0 : InitAt K qual st f c cc [y] fd)
    (hno : PySem.W.findIn K (.ref C) "word" = some none)
    (hbd : defBody st = [.Expr (.Call (.Attribute (.Call (.Name "super" p0) [] [] p1) "__init__" p2) [.Name "why" p4] [] p3) pos0, .Assign [.Attribute (.Name "self" p5) "word" p6] (.Constant (.str wd) kd p7) p8])
    (S : NdefX.NScope ["self", "why", "__class__"] ["self", "why"] ["__class__"] (defScope st)) (hks : (defScope st).names.lookup ("super" : Str) = some .globalImplicit)
    (hp : ((defArgs st).posonlyargs ++ (defArgs st).args).head? = some ar) (har : ar.arg = "self") (hl0 : (defScope st).names.lookup ("self" : Str) = some .local) (hl1 : (defScope st).names.lookup ("why" : Str) = some .local) {pl : Addr → Sem Bool}
    (hi : ∀ L : Addr, interactive (NdefX.envF ⟨"__init__", qual, defArgs st, [], defScope st, [("__class__", cc)], c⟩ f L) = false)
    (hsw : ∀ L : Addr, swapsWith (.Call (.Attribute (.Call (.Name "super" p0) [] [] p1) "__init__" p2) [.Name "why" p4] [] p3) none pos0.line (NdefX.envF ⟨"__init__", qual, defArgs st, [], defScope st, [("__class__", cc)], c⟩ f L) = pure false)
    (hs2 : ∀ L : Addr, swapsWith (.Constant (.str wd) kd p7) (some (.Attribute (.Name "self" p5) "word" p6)) p8.line (NdefX.envF ⟨"__init__", qual, defArgs st, [], defScope st, [("__class__", cc)], c⟩ f L) = pure false)
    (he : ∀ L : Addr, eval (.Call (.Attribute (.Call (.Name "super" p0) [] [] p1) "__init__" p2) [.Name "why" p4] [] p3) (NdefX.envF ⟨"__init__", qual, defArgs st, [], defScope st, [("__class__", cc)], c⟩ f L) = (do
      let ov ← attributeBase (.Call (.Name "super" p0) [] [] p1) "__init__" (NdefX.envF ⟨"__init__", qual, defArgs st, [], defScope st, [("__class__", cc)], c⟩ f L) (eval (.Call (.Name "super" p0) [] [] p1) (NdefX.envF ⟨"__init__", qual, defArgs st, [], defScope st, [("__class__", cc)], c⟩ f L))
      standAt p2.atName
      let (ff, first) ← holding [ov] (getMethod ov "__init__" (pl L))
      callWith p3 ff first (backTo p3 (starEach [.Name "why" p4] (NdefX.envF ⟨"__init__", qual, defArgs st, [], defScope st, [("__class__", cc)], c⟩ f L))) []))
    (hst : ∀ env : Env, starEach [.Name "why" p4] env = [(false, eval (.Name "why" p4) env)]) :
    FnOk P w K mg base CX0 1 f fd ["self", "why"] (spErr C wd) := by
  obtain ⟨oc, od, dV, kV, doc, pm, an, ct, osl, rfl, lk, hcd, _⟩ := I0
  rw [hbd] at lk ⊢
  refine sup_ok (k := 0) (N := ["self", "why", "__class__"]) bx T lk hcd S hks hp (by rw [har] <;> rfl) (by rw [har]; exact hl0) (fun vs H Q E h => ?_) (fun A outer s H vs Q E hr h => ?_) hst hi hsw he
  · obtain ⟨a, y, rfl, _⟩ := h
    rfl
  · obtain ⟨a, y, rfl, ha, k⟩ := h
    refine ⟨a, tCons (tVar 1) tNil, tPut K newId bmB "word" (tVar 0) (tC (.str wd)), rfl, ha, pa_cons (pv 1 rfl (.inl hl1)) pa_nil (hst _), pss_one (ps_put bx (pv 0 rfl (.inl hl0)) pe_str (hs2 _)), ?_⟩
    exact ⟨y, rfl, Nat.succ_le_succ (Nat.zero_le _), ha, .ref a, rfl, a, C, rfl, T.ox, hno, .inl ⟨ha, fun dx n ne => k dx n ne⟩⟩
end Hs
namespace Hs
open PySem PySem.Spec PyProof.Rows L2 Evl
section
variable {P : Program} {w : World} {K : PySem.W.Frag} {mg : Str → Option Value} {base : Heap} {f : Addr} {fd : FuncData}
abbrev sPull : Stmt := top 19
theorem scPull : FnScope ["_law_bag_here", "_law_many", "_law_cell", "_law_got", "_law_wider"] ["_law_bag_here", "_law_many"] (defScope sPull) := ⟨rfl, rfl, rfl, by decide +kernel, rfl, by decide +kernel, by decide +kernel⟩
theorem ok_pull (F : FnP K "_law_pull" sPull f fd) (g_len : mg "len" = none) : FnOk P w K mg base CX0 1 f fd ["_law_bag_here", "_law_many"] spPull := by
  have nd := scPull.nd
  refine F.ok scPull (fun vs H Q E h => ?_) (fun cdv A outer s H vs Q E hr h => ⟨_, PSs.nox (Evl.pss_cut (ps_if (PW.pt (pw_and (pt_cmpR op_eq (pe_ix (r := rIxL K) ix_list (pv 0) pe_int (fun _ _ => rfl)) pe_int (nomark _)) (pw_and1 (pt_cmpR op_lt (pe_ix (r := rIxL K) ix_list (pv 0) pe_int (fun _ _ => rfl)) (pe_callB (r := Evl.rLenS K) call_len_seq (by rfl) g_len PySem.boot_len (pa_cons (pe_ix (r := rIxL K) ix_list (pv 0) pe_int (fun _ _ => rfl)) pa_nil)) (nomark _))))) (pss_cons (ps_set (i := 2) nd rfl (.inl rfl) (pe_ix (r := rIxL K) ix_list (pe_ix (r := rIxL K) ix_list (pv 0) pe_int (fun _ _ => rfl)) (pe_ix (r := rIxL K) ix_list (pv 0) pe_int (fun _ _ => rfl)) (fun _ _ => rfl)))
  (pss_cons (ps_asg (pe_op op_add (pe_ix (r := rIxL K) ix_list (pv 0) pe_int (fun _ _ => rfl)) pe_int) (pg_sub (pv 0) pe_int set_list))
  (pss_one (ps_if (pt_cmpR op_ge (pv 2) (pe_op op_pow pe_int pe_int) (nomark _)) (pss_one (ps_asg (pv 2) (pg_sub (pv 0) pe_int set_list))) (pss_one (ps_asg (pe_op op_modN (pe_op op_add (pe_op op_add (pe_op op_mulW (pe_ix (r := rIxL K) ix_list (pv 0) pe_int (fun _ _ => rfl)) pe_int) (pe_op op_modN (pv 2) pe_int)) pe_int) pe_int) (pg_sub (pv 0) pe_int set_list))))))) pss_nil)
  (pss_cons (ps_if (pt_cmpR op_gt (pe_ix (r := rIxL K) ix_list (pv 0) pe_int (fun _ _ => rfl)) pe_int (nomark _)) (pss_cons (ps_set (i := 3) nd rfl (.inl rfl) (pe_op op_modN (pe_ix (r := rIxL K) ix_list (pv 0) pe_int (fun _ _ => rfl)) (pv 1)))
  (pss_cons (ps_asg (pe_op Hs.op_fdivG (pe_ix (r := rIxL K) ix_list (pv 0) pe_int (fun _ _ => rfl)) (pv 1)) (pg_sub (pv 0) pe_int set_list))
  (pss_one (ps_ret (pv 3))))) pss_nil)
  (pss_cons (ps_asg (pe_op op_add (pe_ix (r := rIxL K) ix_list (pv 0) pe_int (fun _ _ => rfl)) pe_int) (pg_sub (pv 0) pe_int set_list))
  (pss_cons (ps_set (i := 4) nd rfl (.inl rfl) (pe_op op_add (pe_op op_mulW (pe_ix (r := rIxL K) ix_list (pv 0) pe_int (fun _ _ => rfl)) (pe_ix (r := rIxL K) ix_list (pv 0) pe_int (fun _ _ => rfl))) (pe_op op_mulW (pe_op op_mulW pe_int (pe_ix (r := rIxL K) ix_list (pv 0) pe_int (fun _ _ => rfl))) (pe_op op_add (pe_op op_modN (pe_ix (r := rIxL K) ix_list (pv 0) pe_int (fun _ _ => rfl)) pe_int) pe_int))))
  (pss_cons (ps_asg (pe_op op_modN (pe_op op_add (pe_op op_add (pv 4) (pe_op op_mulW (pe_op op_mulW (pe_ix (r := rIxL K) ix_list (pv 0) pe_int (fun _ _ => rfl)) (pe_ix (r := rIxL K) ix_list (pv 0) pe_int (fun _ _ => rfl))) (pe_ix (r := rIxL K) ix_list (pv 0) pe_int (fun _ _ => rfl)))) pe_int) pe_int) (pg_sub (pv 0) pe_int set_list))
  (pss_one (ps_ret (pe_op op_modN (pe_op op_add (pe_op Hs.op_fdivG (pe_ix (r := rIxL K) ix_list (pv 0) pe_int (fun _ _ => rfl)) pe_int) (pe_op op_mulW (pe_op op_modN (pe_ix (r := rIxL K) ix_list (pv 0) pe_int (fun _ _ => rfl)) pe_int) pe_int)) (pv 1))))))))), ?_⟩)
  · obtain ⟨b, l, ns, n, many, rfl, _⟩ := h
    rfl
  · obtain ⟨b, l, ns, n, many, rfl, B, hn, hm, hm2, k⟩ := h
    obtain ⟨⟨i, z, s0, c, hb, hi, h0, h1, hc⟩, hl, ne⟩ := B
    refine q_cut (M := fun σ' H' => ∃ v2, σ' = [some (.ref b), some (.int many), v2, none, none] ∧ H' l = some (.lst (ns.map V.int)) ∧ But H H' b ∧ ∃ (i : Nat) (z s : Int), H' b = some (.lst [.ref l, .int i, .int z, .int s, .int c]) ∧ i ≤ ns.length ∧ 0 ≤ s ∧ s < 2147483647) ?_ ?_
    · refine s_when (et_and (et_test (ev_op (ev_ix rfl hb rfl) ev_c (rv_eq rfl))) fun _ => et_test (ev_op (ev_ix rfl hb rfl) (ev_len (ev_ix rfl hb rfl) (sq_of hl)) rv_I0)) (fun ht H1 e1 => ?_) (fun ht H1 e1 => ?_)
      · have hlt : (i : Int) < ((ns.map V.int).length : Int) := by
          rw [Bool.and_eq_true] at ht
          exact of_decide_eq_true ht.2
        rw [List.length_map] at hlt
        have hit : i < ns.length := by omega
        have hg : (ns.map V.int)[i]? = some (V.int ns[i]) := by
          rw [List.getElem?_map, List.getElem?_eq_getElem hit] <;> rfl
        refine q_asg (ev_op (ev_ix rfl (e1 _ _ hb) rfl) (ev_ix rfl (e1 _ _ hb) rfl) (rv_ixL (sq_of (e1 _ _ hl)) (atI_nat hg))) fun H2 e2 => ?_
        have e12 := e1.trans e2
        refine q_setL (j := 1) (e12 _ _ hb) (ev_op (ev_ix rfl (e12 _ _ hb) rfl) ev_c rv_I0) (ev_var rfl) ev_c (by simp) fun H3 e3 => ?_
        have hb3 : (upd H3 b (.lst [.ref l, .int ((i : Int) + 1), .int z, .int s0, .int c])) b = some (.lst [.ref l, .int ((i + 1 : Nat) : Int), .int z, .int s0, .int c]) := upd_same
        have hl3 : (upd H3 b (.lst [.ref l, .int ((i : Int) + 1), .int z, .int s0, .int c])) l = some (.lst (ns.map V.int)) := by
          rw [upd_ne (Ne.symm ne)]
          exact (e12.trans e3) _ _ hl
        have bt3 : But H (upd H3 b (.lst [.ref l, .int ((i : Int) + 1), .int z, .int s0, .int c])) b := But.upd (.of (e12.trans e3))
        refine s_if (et_test (ev_op (ev_var rfl) (ev_op ev_c ev_c (rv_I ⟨by decide, by decide, by decide⟩)) rv_I0)) (fun ht2 H4 e4 => ?_) (fun ht2 H4 e4 => ?_)
        · refine s_setL (j := 2) (e4 _ _ hb3) (ev_var rfl) (ev_var rfl) ev_c (by simp) fun H5 e5 => ?_
          refine ⟨_, rfl, ?_, But.upd ((bt3.ex e4).ex e5), i + 1, ns[i], s0, upd_same, hit, h0, h1⟩
          rw [upd_ne (Ne.symm ne)]
          exact (e4.trans e5) _ _ hl3
        · refine s_setL (j := 3) (e4 _ _ hb3) (ev_op (ev_op (ev_op (ev_op (ev_ix rfl (e4 _ _ hb3) rfl) ev_c (rv_I (mul64 (by omega) (by decide)))) (ev_op (ev_var rfl) ev_c (rv_I (show (2147483563 : Int) ≠ 0 by decide))) rv_I0) ev_c rv_I0) ev_c (rv_I (show (2147483629 : Int) ≠ 0 by decide))) (ev_var rfl) ev_c (by simp) fun H5 e5 => ?_
          have hp := modP (i := s0 * 40503 + (ns[i]).fmod 2147483563 + 1) (j := 2147483629) (by decide)
          refine ⟨_, rfl, ?_, But.upd ((bt3.ex e4).ex e5), i + 1, z, _, upd_same, hit, hp.1, by omega⟩
          rw [upd_ne (Ne.symm ne)]
          exact (e4.trans e5) _ _ hl3
      · exact ⟨none, rfl, e1 _ _ hl, .of e1, i, z, s0, e1 _ _ hb, hi, h0, h1⟩
    · rintro σ' H1 ⟨v2, rfl, hl1, bt1, i, z, s0, hb1, hi, h0, h1⟩
      refine q_when (et_test (ev_op (ev_ix rfl hb1 rfl) ev_c rv_I0)) (fun ht H2 e2 => ?_) (fun ht H2 e2 => ?_)
      · refine q_asg (ev_op (ev_ix rfl (e2 _ _ hb1) rfl) (ev_var rfl) (rv_I (show many ≠ 0 by omega))) fun H3 e3 => ?_
        have e23 := e2.trans e3
        refine q_setL (j := 2) (e23 _ _ hb1) (ev_op (ev_ix rfl (e23 _ _ hb1) rfl) (ev_var rfl) (rv_I (divG (b := 200) (by omega) (by omega) (by decide) (by decide)))) (ev_var rfl) ev_c (by simp) fun H4 e4 => ?_
        have hp := modP (i := z) (j := many) hm
        refine s_ret (ev_var rfl) fun H5 e5 => k _ _ hp.1 hp.2 ?_ ((But.upd (bt1.ex (e23.trans e4))).ex e5)
        refine BagAt.ext (n := n + 1) ⟨⟨i, _, s0, c, upd_same, hi, h0, h1, by omega⟩, ?_, ne⟩ e5 (Nat.le_refl _)
        rw [upd_ne (Ne.symm ne)]
        exact (e23.trans e4) _ _ hl1
      · refine q_setL (j := 4) (e2 _ _ hb1) (ev_op (ev_ix rfl (e2 _ _ hb1) rfl) ev_c rv_I0) (ev_var rfl) ev_c (by simp) fun H3 e3 => ?_
        have hb3 : (upd H3 b (.lst [.ref l, .int i, .int z, .int s0, .int ((c : Int) + 1)])) b = some (.lst [.ref l, .int i, .int z, .int s0, .int ((c : Int) + 1)]) := upd_same
        have hl3 : (upd H3 b (.lst [.ref l, .int i, .int z, .int s0, .int ((c : Int) + 1)])) l = some (.lst (ns.map V.int)) := by
          rw [upd_ne (Ne.symm ne)]
          exact (e2.trans e3) _ _ hl1
        have bt3 : But H (upd H3 b (.lst [.ref l, .int i, .int z, .int s0, .int ((c : Int) + 1)])) b := But.upd (bt1.ex (e2.trans e3))
        have hp1 := modP (i := s0) (j := 8191) (by decide)
        refine q_asg (ev_op (ev_op (ev_ix rfl hb3 rfl) (ev_ix rfl hb3 rfl) (rv_I (mul64 (by omega) (by omega)))) (ev_op (ev_op ev_c (ev_ix rfl hb3 rfl) (rv_I (mul64 (by decide) (by omega)))) (ev_op (ev_op (ev_ix rfl hb3 rfl) ev_c (rv_I (show (8191 : Int) ≠ 0 by decide))) ev_c rv_I0) (rv_I (mul64 (by omega) (by omega)))) rv_I0) fun H4 e4 => ?_
        have hcc : ((c : Int) + 1) * ((c : Int) + 1) ≤ 1000000 * 1000000 := Int.mul_le_mul (by omega) (by omega) (by omega) (by decide)
        have hcd : 0 ≤ ((c : Int) + 1) * ((c : Int) + 1) := Int.mul_nonneg (by omega) (by omega)
        refine q_setL (j := 3) (e4 _ _ hb3) (ev_op (ev_op (ev_op (ev_var rfl) (ev_op (ev_op (ev_ix rfl (e4 _ _ hb3) rfl) (ev_ix rfl (e4 _ _ hb3) rfl) (rv_I (mul64 (by omega) (by omega)))) (ev_ix rfl (e4 _ _ hb3) rfl) (rv_I (mul64 (by omega) (by omega)))) rv_I0) ev_c rv_I0) ev_c (rv_I (show (2147483629 : Int) ≠ 0 by decide))) (ev_var rfl) ev_c (by simp) fun H5 e5 => ?_
        generalize hs' : Int.fmod _ 2147483629 = s1
        have hs1 : 0 ≤ s1 ∧ s1 < 2147483629 := by
          rw [← hs']
          exact modP (by decide)
        have hp2 := modP (i := s1) (j := 7919) (by decide)
        refine s_ret (ev_op (ev_op (ev_op (ev_ix rfl upd_same rfl) ev_c (rv_I (divG (b := 64) (by decide) (by decide) (by decide) (by decide)))) (ev_op (ev_op (ev_ix rfl upd_same rfl) ev_c (rv_I (show (7919 : Int) ≠ 0 by decide))) ev_c (rv_I (mul64 (by omega) (by decide)))) rv_I0) (ev_var rfl) (rv_I (show many ≠ 0 by omega))) fun H6 e6 => ?_
        have hp := modP (i := s1.fdiv 71 + s1.fmod 7919 * 37) (j := many) hm
        refine k _ _ hp.1 hp.2 ?_ ((But.upd (bt3.ex (e4.trans e5))).ex e6)
        refine BagAt.ext (n := n + 1) ⟨⟨i, z, s1, c + 1, upd_same, hi, hs1.1, by omega, by omega⟩, ?_, ne⟩ e6 (Nat.le_refl _)
        rw [upd_ne (Ne.symm ne)]
        exact (e4.trans e5) _ _ hl3
end
end Hs
namespace Hs
open PySem PySem.Spec PyProof.Rows L2 Evl
/-! ### numbers as texts -/
def numS (n : Int) : Str := Str.ofString (toString n)
theorem tl_ofS (s : String) : TL.tl (Str.ofString s) = s.toList.map Char.toNat := by
  show (Str.ofString s).cps.toList = _
  simp only [Str.ofString_eq_toList, List.toList_toArray]
theorem tl_numS {n : Int} : TL.tl (numS n) = if n < 0 then 45 :: TL.numL n.natAbs else TL.numL n.natAbs := by
  by_cases h : n < 0
  · rw [if_pos h]
    obtain ⟨m, rfl⟩ := Int.eq_negSucc_of_lt_zero h
    have e : toString (Int.negSucc m) = "-" ++ toString ((m + 1 : Nat) : Int) := rfl
    unfold numS
    rw [e, tl_ofS, String.toList_append, List.map_append]
    have z := TL.tl_num (m + 1)
    rw [tl_ofS] at z
    rw [z]
    rfl
  · rw [if_neg h]
    obtain ⟨m, rfl⟩ := Int.eq_ofNat_of_zero_le (Int.not_lt.mp h)
    exact TL.tl_num m
/-- a sign that no number's text holds -/
theorem numS_free {n : Int} {s : Nat} (h : s < 45 ∨ 57 < s ∨ s = 46 ∨ s = 47) : s ∉ TL.tl (numS n) := by
  rw [tl_numS]
  have f : s ∉ TL.numL n.natAbs := TL.numL_free (by omega)
  split
  · intro hm
    rcases List.mem_cons.mp hm with e | e
    · omega
    · exact f e
  · exact f
theorem numS_len {n : Int} (h : n.natAbs < 10 ^ 9) : (numS n).length ≤ 10 := by
  rw [TL.len_tl, tl_numS]
  have z := TL.numL_len (n := n.natAbs) (k := 9) (by decide) h
  split
  · rw [List.length_cons]
    omega
  · omega
theorem numS_ne {n : Int} : TL.tl (numS n) ≠ [] := by
  rw [tl_numS]
  split
  · simp
  · exact TL.numL_ne _
theorem numS_reads {n : Int} (h : n.natAbs < 10 ^ 9) : intText? (numS n) = some n := by
  have hl := numS_len h
  by_cases hn : n < 0
  · have e : TL.tl (numS n) = 45 :: TL.numL n.natAbs := by rw [tl_numS, if_pos hn]
    have z := intText_neg (x := numS n) (cs := TL.numL n.natAbs) e (TL.numL_digits _) (TL.numL_ne _) (by omega)
    rw [z, TL.numL_val]
    congr 1
    omega
  · have e : TL.tl (numS n) = TL.numL n.natAbs := by rw [tl_numS, if_neg hn]
    have e2 : (numS n).cps.toList = TL.numL n.natAbs := e
    have z := intText_digits (x := numS n) (by rw [e2]; exact TL.numL_digits _) (by rw [e2]; exact TL.numL_ne _) (by omega)
    rw [z, e2, TL.numL_val]
    congr 1
    omega
/-- its figures -/
theorem figs_of {n : Int} : TL.tl (Txt.removeprefix (numS n) "-") = TL.numL n.natAbs := by
  have hd : ((("-" : Str).cps.toList)) = [45] := by decide +kernel
  have hl1 : ("-" : Str).length = 1 := by decide +kernel
  unfold Txt.removeprefix
  have es : Builtin.Str.subAt (numS n) "-" 0 = decide (n < 0) := by
    rw [StrLaws.subAt_eq, hl1, hd]
    have e2 : (numS n).cps.toList = if n < 0 then 45 :: TL.numL n.natAbs else TL.numL n.natAbs := tl_numS
    rw [e2, List.drop_zero]
    by_cases hn : n < 0
    · rw [if_pos hn, decide_eq_true hn]
      rfl
    · rw [if_neg hn, decide_eq_false hn]
      refine beq_eq_false_iff_ne.mpr fun q => ?_
      have hm : 45 ∈ TL.numL n.natAbs := List.mem_of_mem_take (by rw [q]; exact List.mem_singleton.mpr rfl)
      exact TL.numL_free (s := 45) (.inl (by decide)) hm
  rw [es]
  by_cases hn : n < 0
  · rw [decide_eq_true hn, if_pos rfl]
    unfold Txt.affix
    dsimp only
    rw [hl1]
    have e2 : (numS n).cps.toList = 45 :: TL.numL n.natAbs := by
      have z : TL.tl (numS n) = _ := tl_numS (n := n)
      rw [if_pos hn] at z
      exact z
    have hlen : (numS n).length = (TL.numL n.natAbs).length + 1 := by
      rw [TL.len_tl]
      show (numS n).cps.toList.length = _
      rw [e2, List.length_cons]
    rw [if_neg (by rw [beq_iff_eq]; omega)]
    show ((numS n).cps.extract 1 (numS n).length).toList = _
    rw [Array.toList_extract, e2, hlen]
    simp [List.extract]
  · rw [decide_eq_false hn, if_neg Bool.false_ne_true]
    unfold Txt.affix
    dsimp only
    rw [tl_numS, if_neg hn]
theorem dec_digit : ∀ c : Nat, 48 ≤ c → c ≤ 57 → Unicode.isDecimal c = true := by
  have k : ∀ c : Fin 58, 48 ≤ c.val → Unicode.isDecimal c.val = true := by decide +kernel
  exact fun c h1 h2 => k ⟨c, by omega⟩ h1
theorem figs_dec {n : Int} : Txt.isdecimal (Txt.removeprefix (numS n) "-") = true := by
  have e : (Txt.removeprefix (numS n) "-").cps.toList = TL.numL n.natAbs := figs_of
  unfold Txt.isdecimal
  rw [Bool.and_eq_true]
  constructor
  · refine decide_eq_true ?_
    rw [TL.len_tl, figs_of]
    exact List.length_pos_iff.mpr (TL.numL_ne _)
  · rw [Array.all_eq_true_iff_forall_mem] 
    intro c hc
    have hm : c ∈ TL.numL n.natAbs := by
      rw [← e]
      exact Array.mem_toList_iff.mpr hc
    obtain ⟨a, b⟩ := TL.numL_digits _ c hm
    exact dec_digit c a b
theorem figs_len {n : Int} (h : n.natAbs < 10 ^ 9) : (Txt.removeprefix (numS n) "-").length ≤ 9 := by
  rw [TL.len_tl, figs_of]
  exact TL.numL_len (by decide) h
end Hs
namespace Hs
open PySem PySem.Spec PyProof.Rows L2 Evl
section
variable {prog : Program} {w : World} {A : Around} {E : Value → Shared → Prop} {s : Shared}
/-- x, *ys = a tuple that is not empty: its first item, the rest as a new list -/
theorem star_tup {t : Addr} {its : Array Value} {x : Value} {ys : List Value} {Qd : List Value → Shared → Prop} (hT : IsTup s.heap t its) (hA : A.handled = none) (e : its.toList = x :: ys) (hz : its.size ≤ 16384)
    (k : ∀ (g : Heap) (tk : Tok) (d : Addr), (∀ b o, s.heap.get? b = some o → g.get? b = some o) → s.heap.get? d = none → g.get? d = some (seqObj "list" ys.toArray 0) → Qd [x, .ref d] { s with heap := g, toks := tk }) :
    wpAny (model prog w) A (unpackItems (.ref t) 2 (some 1)) Qd E s := by
  have nt : t ≠ s.heap.objs.size := let ⟨_, q, _⟩ := hT; Nat.ne_of_lt (Heap.lt_size q)
  have sz : its.size = ys.length + 1 := by
    rw [← Array.length_toList, e, List.length_cons]
  unfold unpackItems
  refine wpAny_bind ?_
  unfold notIterableAtAll
  refine wpAny_bind (wpAny_specialOf hT.typeIs slot_tuple_iter.lookup (wpAny_pure ?_))
  simp only [Bool.false_eq_true, if_false]
  refine wpAny_bind (wpAny_holding (iter_tuple hT ?_))
  refine wpAny_bind (wpAny_holding (draw_tuple nt 1 0 _ _ ?first (hT.push _) (by omega) fun g1 i1 b1 => ?_))
  case first => exact ⟨_, Heap.get?_push_size _ rfl, rfl, rfl⟩
  have e1 : (its.toList.drop 0).take 1 = [x] := by
    rw [e]
    rfl
  rw [e1]
  have T1 : IsTup g1 t its := (hT.push _).extBut b1.extBut nt
  obtain ⟨oi, hoi⟩ : ∃ o, g1.get? s.heap.objs.size = some o := let ⟨o, q, _⟩ := i1; ⟨o, q⟩
  obtain ⟨ot, hot⟩ : ∃ o, g1.get? t = some o := let ⟨o, q, _⟩ := T1; ⟨o, q⟩
  have W := Walks.tuple (prog := prog) (w := w) (A := A.in1) hA s.heap.objs.size t nt its
  rw [if_neg (show ¬ ([x] : List Value).length < 1 from Nat.lt_irrefl 1)]
  refine wpAny_bind (wpAny_holding (PySem.W.kun_collect (s := { s with heap := g1 }) (T := "tuple_iterator") (.inr (.inr (.inr rfl))) W (fun _ _ st => st.1.typeIs) (k := 1) (by omega) ⟨i1, T1⟩ (Heap.lt_size hoi) (Heap.lt_size hot) (fun g2 tk kp => ?_) (by rw [sizeLine_eq]; omega)))
  have e2 : its.toList.drop 1 = ys := by rw [e] <;> rfl
  rw [e2]
  have hlt : ¬ ys.length < 2 - 1 - 1 := Nat.not_lt_zero _
  rw [if_neg hlt]
  have e3 : ys.take (ys.length - (2 - 1 - 1)) = ys := List.take_of_length_le (Nat.le_refl _)
  have e4 : ys.drop (ys.length - (2 - 1 - 1)) = [] := List.drop_eq_nil_of_le (Nat.le_refl _)
  rw [e3, e4]
  have old : ∀ b o, s.heap.get? b = some o → g2.get? b = some o := fun b o hb => by
    have n1 : b ≠ s.heap.objs.size := Nat.ne_of_lt (Heap.lt_size hb)
    exact kp b o n1 (b1.extBut b o n1 (Heap.get?_push_of_some _ hb))
  refine wpAny_bind (wpAny_newList ?_ ?_)
  · refine wpAny_pure (k _ tk g2.objs.size (fun b o hb => Heap.get?_push_of_some _ (old b o hb)) ?_ (Heap.get?_push_size _ rfl))
    cases q : s.heap.get? g2.objs.size with
    | none => rfl
    | some o => exact absurd (Heap.lt_size (old _ _ q)) (Nat.lt_irrefl _)
  · have z : ys.length ≤ sizeLine := by
      rw [sizeLine_eq]
      omega
    exact z
end
/-- x, *ys = a tuple -/
def gStar (K : PySem.W.Frag) (g1 g2 : TG) : TG := fun v σ H Q => ∃ a x xs, v = .ref a ∧ SqT K H a (x :: xs) ∧ xs.length ≤ 16000 ∧ ∀ d, H d = none → g1 x σ (upd H d (.lst xs)) fun σ1 H1 => g2 (.ref d) σ1 H1 Q
section
variable {X : Cx}
theorem pg_star {e1 e2 : Expr} {p p2 : Pos} {k : Nat} {g1 g2 : TG} (hc : X.calm = true) (h1 : PG X e1 g1) (h2 : PG X e2 g2) (hs : assignEach [e1, .Starred e2 p2] X.env = [(false, assign e1 X.env), (true, assign e2 X.env)] := by rfl) : PG X (.Tuple [e1, .Starred e2 p2] k p) (gStar X.K g1 g2) := by
  refine ⟨fun pins s σ H v u Q I r hw => ?_⟩
  obtain ⟨a, x, xs, rfl, hq, hl, hw⟩ := hw
  cases r
  obtain ⟨its, rv, ht, hz⟩ := I.tuple hq
  rw [PyProof.Rows.assign_Tuple]
  refine wpAny_bind (wpAny_standAt ?_)
  unfold unpack
  rw [hs]
  cases rv with
  | @cons _ u1 _ us r1 rs =>
    have lz : us.length ≤ 16000 := by rw [← rs.length]; exact hl
    refine wpAny_bind (wpAny_holding (star_tup (x := u1) (ys := us) ht (I.ok.hd hc) rfl (by rw [List.size_toArray, List.length_cons]; omega) fun g tk d old hd0 hd => ?_))
    have hn : H d = none := I.hok.gone hd0
    have I1 : Inv X pins σ (upd H d (.lst xs)) { s with heap := g, toks := tk } := I.laidN (t' := tk) old hd0 hn ⟨by rw [sizeLine_eq]; omega, us, 0, rs, hd⟩
    refine assignInOrder_cons (wpAny_mono (h1.run pins _ σ _ x u1 _ I1 r1 (hw d hn)) (fun _ s2 h2' => ?_) fun _ _ z => z)
    obtain ⟨σ2, H2, I2, q2⟩ := h2'
    refine assignInOrder_cons (wpAny_mono (h2.run pins s2 σ2 H2 (.ref d) (.ref d) Q I2 rfl q2) (fun _ s3 h3 => ?_) fun _ _ z => z)
    exact assignInOrder_nil h3
end
end Hs
namespace Hs
open PySem PySem.Spec PyProof.Rows L2 Evl
/-! ### words that are numbers -/
theorem numS_inj {m n : Int} (hm : m.natAbs < 10 ^ 9) (hn : n.natAbs < 10 ^ 9) (h : numS m = numS n) : m = n := by
  have e := numS_reads hm
  rw [h, numS_reads hn] at e
  exact (Option.some.inj e).symm
open Classical in
noncomputable def numOf (w : Str) : Option Int := if h : ∃ n : Int, n.natAbs < 10 ^ 9 ∧ w = numS n then some h.choose else none
theorem numOf_some {w : Str} {n : Int} (h : numOf w = some n) : n.natAbs < 10 ^ 9 ∧ w = numS n := by
  unfold numOf at h
  split at h
  · rename_i q
    have e := Option.some.inj h
    rw [← e]
    exact q.choose_spec
  · cases h
theorem numOf_numS {n : Int} (h : n.natAbs < 10 ^ 9) : numOf (numS n) = some n := by
  have q : ∃ m : Int, m.natAbs < 10 ^ 9 ∧ numS n = numS m := ⟨n, h, rfl⟩
  unfold numOf
  rw [dif_pos q]
  exact congrArg some (numS_inj q.choose_spec.1 h q.choose_spec.2.symm)
theorem numOf_none {w : Str} (h : numOf w = none) {n : Int} (hn : n.natAbs < 10 ^ 9) : w ≠ numS n := fun e => by
  rw [e, numOf_numS hn] at h
  cases h
/-- plain signs alone, and not too many -/
def Asc (x : Str) : Prop := (∀ c ∈ TL.tl x, c < 128) ∧ x.length ≤ 15000
/-- the word without a stroke ahead -/
def bare : List Nat → List Nat
  | 45 :: r => r
  | l => l
theorem bare_tl {w : Str} : TL.tl (Txt.removeprefix w "-") = bare (TL.tl w) := by
  have hd : ((("-" : Str).cps.toList)) = [45] := by decide +kernel
  have hl1 : ("-" : Str).length = 1 := by decide +kernel
  unfold Txt.removeprefix
  have es : Builtin.Str.subAt w "-" 0 = decide ((TL.tl w).take 1 = [45]) := by
    rw [StrLaws.subAt_eq, hl1, hd, List.drop_zero]
    show ((TL.tl w).take 1 == [45]) = _
    by_cases h : (TL.tl w).take 1 = [45]
    · rw [decide_eq_true h, h]
      rfl
    · rw [decide_eq_false h]
      exact beq_eq_false_iff_ne.mpr h
  rw [es]
  by_cases h : (TL.tl w).take 1 = [45]
  · rw [decide_eq_true h, if_pos rfl]
    obtain ⟨r, hr⟩ : ∃ r, TL.tl w = 45 :: r := by
      cases e : TL.tl w with
      | nil =>
        rw [e] at h
        cases h
      | cons c r =>
        rw [e] at h
        have : c = 45 := List.head_eq_of_cons_eq h
        exact ⟨r, by rw [this]⟩
    have e2 : w.cps.toList = 45 :: r := hr
    have hlen : w.length = r.length + 1 := by
      rw [TL.len_tl, hr, List.length_cons]
    unfold Txt.affix
    dsimp only
    rw [hl1, if_neg (by rw [beq_iff_eq]; omega), hr]
    show (w.cps.extract 1 w.length).toList = _
    rw [Array.toList_extract, e2, hlen]
    simp [List.extract, bare]
  · rw [decide_eq_false h, if_neg Bool.false_ne_true]
    unfold Txt.affix
    dsimp only
    cases e : TL.tl w with
    | nil =>
      simp [e, bare]
    | cons c r =>
      have hc : c ≠ 45 := fun z => h (by rw [e, z] <;> rfl)
      have : bare (c :: r) = c :: r := by
        unfold bare
        split
        · rename_i q
          exact absurd (List.head_eq_of_cons_eq q) hc
        · rfl
      rw [this]
theorem dec_ascii : ∀ c : Nat, c < 128 → Unicode.isDecimal c = true → 48 ≤ c ∧ c ≤ 57 := by
  have k : ∀ c : Fin 128, Unicode.isDecimal c.val = true → 48 ≤ c.val ∧ c.val ≤ 57 := by decide +kernel
  exact fun c h1 h2 => k ⟨c, h1⟩ h2
theorem val_pow : ∀ (ds : List Nat) (a : Nat), NumText.AllDigits ds → ds.foldl (fun acc c => acc * 10 + (c - 48)) a < (a + 1) * 10 ^ ds.length
  | [], a, _ => by simp
  | d :: r, a, h => by
    have hd := h d List.mem_cons_self
    have ih := val_pow r (a * 10 + (d - 48)) fun c hc => h c (List.mem_cons_of_mem _ hc)
    rw [List.foldl_cons, List.length_cons, Nat.pow_succ]
    refine Nat.lt_of_lt_of_le ih ?_
    have e : (a + 1) * (10 ^ r.length * 10) = ((a + 1) * 10) * 10 ^ r.length := by
      rw [Nat.mul_comm (10 ^ r.length) 10, Nat.mul_assoc]
    rw [e]
    exact Nat.mul_le_mul_right _ (by omega)
theorem pow9 {ds : List Nat} (h : NumText.AllDigits ds) (hl : ds.length ≤ 9) : NumText.digitsVal ds < 10 ^ 9 := by
  have z := val_pow ds 0 h
  rw [Nat.zero_add, Nat.one_mul] at z
  exact Nat.lt_of_lt_of_le z (Nat.pow_le_pow_right (by decide) hl)
/-- a text of up to nine figures, a stroke ahead of them or none, is read as a number -/
theorem reads_of {w : Str} (ha : Asc w) (hd : Txt.isdecimal (Txt.removeprefix w "-") = true) (hl : (Txt.removeprefix w "-").length ≤ 9) : ∃ v : Int, intText? w = some v ∧ v.natAbs < 10 ^ 9 ∧ w.length ≤ 10 := by
  have hb := bare_tl (w := w)
  unfold Txt.isdecimal at hd
  rw [Bool.and_eq_true] at hd
  obtain ⟨h0, h1⟩ := hd
  rw [Array.all_eq_true_iff_forall_mem] at h1
  have hlb : (bare (TL.tl w)).length ≤ 9 := by
    rw [← hb, ← TL.len_tl]
    exact hl
  have hne : bare (TL.tl w) ≠ [] := fun e => by
    have z := of_decide_eq_true h0
    rw [TL.len_tl, hb, e] at z
    exact Nat.lt_irrefl 0 z
  have hasc : ∀ c ∈ bare (TL.tl w), c < 128 := fun c hc => by
    refine ha.1 c ?_
    cases e : TL.tl w with
    | nil =>
      rw [e] at hc
      exact hc
    | cons d r =>
      rw [e] at hc
      unfold bare at hc
      split at hc
      · rename_i q
        rw [← List.cons.inj q |>.2] at hc
        exact List.mem_cons_of_mem _ hc
      · exact hc
  have hdig : NumText.AllDigits (bare (TL.tl w)) := fun c hc => dec_ascii c (hasc c hc) (h1 c (by
    have z : c ∈ TL.tl (Txt.removeprefix w "-") := by
      rw [hb]
      exact hc
    exact Array.mem_toList_iff.mp z))
  have hv := pow9 hdig hlb
  by_cases h45 : ∃ r, TL.tl w = 45 :: r
  · obtain ⟨r, hr⟩ := h45
    rw [hr] at hdig hne hv hlb
    have z := intText_neg (x := w) (cs := r) hr hdig hne (by rw [TL.len_tl, hr, List.length_cons]; have : r.length ≤ 9 := hlb; omega)
    refine ⟨_, z, ?_, ?_⟩
    · have : NumText.digitsVal r < 10 ^ 9 := hv
      omega
    · rw [TL.len_tl, hr, List.length_cons]
      have : r.length ≤ 9 := hlb
      omega
  · have e : bare (TL.tl w) = TL.tl w := by
      unfold bare
      split
      · rename_i r q
        exact absurd ⟨r, q⟩ h45
      · rfl
    rw [e] at hdig hne hv hlb
    have hlw : w.length ≤ 9 := by
      rw [TL.len_tl]
      exact hlb
    have z := intText_digits (x := w) hdig hne (by omega)
    exact ⟨_, z, by have : NumText.digitsVal w.cps.toList < 10 ^ 9 := hv; omega, by omega⟩
/-- the numbers that the words are, if each is one -/
noncomputable def nums : List Str → Option (List Int)
  | [] => some []
  | w :: r => match numOf w, nums r with
    | some n, some ns => some (n :: ns)
    | _, _ => none
theorem nums_some : ∀ {ws : List Str} {ns : List Int}, nums ws = some ns → ws = ns.map numS ∧ ∀ n ∈ ns, n.natAbs < 10 ^ 9
  | [], ns, h => by
    cases h
    exact ⟨rfl, fun _ h => by cases h⟩
  | w :: r, ns, h => by
    unfold nums at h
    split at h
    · rename_i n ms h1 h2
      cases h
      obtain ⟨a, b⟩ := numOf_some h1
      obtain ⟨c, d⟩ := nums_some h2
      refine ⟨by rw [b, c] <;> rfl, fun z hz => ?_⟩
      rcases List.mem_cons.mp hz with rfl | hz
      · exact a
      · exact d z hz
    · cases h
theorem nums_of : ∀ {ns : List Int}, (∀ n ∈ ns, n.natAbs < 10 ^ 9) → nums (ns.map numS) = some ns
  | [], _ => rfl
  | n :: ns, h => by
    show (match numOf (numS n), nums (ns.map numS) with | some n, some ns => some (n :: ns) | _, _ => none) = _
    rw [numOf_numS (h n List.mem_cons_self), nums_of fun z hz => h z (List.mem_cons_of_mem _ hz)]
theorem nums_all : ∀ {ws : List Str}, (nums ws).isSome = ws.all fun w => (numOf w).isSome
  | [] => rfl
  | w :: r => by
    have ih := nums_all (ws := r)
    rw [List.all_cons, ← ih]
    show (match numOf w, nums r with | some n, some ns => some (n :: ns) | _, _ => none).isSome = _
    cases numOf w with
    | none => rfl
    | some n =>
      cases nums r with
      | none => rfl
      | some ns => rfl
end Hs
namespace Hs
open PySem PySem.Spec PyProof.Rows L2 Evl
/-! ### an own error with a number of its own: C(e), __init__(self, row=0) -/
theorem pmk_oexA {X : Cx} {CX : CXT} {x : Str} {C fI : Addr} {k : Nat} {fd : FuncData} {ps : List Str} {sp : Sp} {ds : List Value} {dvs : List V} {p pos : Pos} {e : Expr} {es : List Expr} {ta : TA} {B newId initId : String} {bmB : List Value} (bx : BasX B newId initId bmB) (T : OexG X.K C newId bmB) (iC : PySem.W.findIn X.K (.ref C) "__init__" = some (some (.ref fI))) (tI : PySem.W.typeIn X.K (.ref fI) = some (.type "function"))
    (F1 : FnOk X.prog X.w X.K X.mg X.base CX k fI fd ps sp) (hr : Room (k + 1) X.A) (hb : Binds X.K fd ps ds) (hd : Vals dvs ds) (hx : Passes CX X (fun _ _ _ => False)) (hg : Gl X x) (hm : X.mg x = some (.ref C)) (ha : PA X (e :: es) ta)
    (hdb : (x == ("__debug__" : Str)) = false := by decide) (he : starEach (e :: es) X.env = (false, eval e X.env) :: starEach es X.env := by rfl) (hpl : (backTo pos (starEach es X.env)).any (·.1) = false := by rfl) :
    PMk X (.Call (.Name x p) (e :: es) [] pos) (tMkO C sp dvs ta) := by
  intro pins s σ H Q I h
  obtain ⟨nm, q, N, bs, bm, sn, sub, ab, col, dd, k0, k1, k2, k3, k5, hC, hbm⟩ := T.cls
  refine wpAny_Call_Name_kw (ld_glob I hg hm ?_ hdb)
  refine PySem.W.callWith_K (h₀ := X.base) I.ok.mod.kin T.kC (thn (ha.run pos pins s σ H _ I h) fun us s1 ⟨vs, H1, I1, r1, hz, q1⟩ => ⟨I1.kIn, ?_⟩) he hpl
  show wpAny _ _ (call (.ref C) us) _ _ _
  obtain ⟨hp, g, dr, tk, os⟩ := s1
  have hsz : hp.objs.size ≤ hp.objs.size + 1 := Nat.le_succ _
  have hn : H1 (hp.objs.size + 1) = none := I1.hok.fresh hsz
  have hq := q1 (hp.objs.size + 1) hn
  have kk : ∀ b o, hp.get? b = some o → ((hp.push (PySem.W.kdv_tup us)).push (PySem.HandSPX.excO C hp.objs.size)).get? b = some o := fun b o e => Heap.get?_push_of_some _ (Heap.get?_push_of_some _ e)
  have hget : ((hp.push (PySem.W.kdv_tup us)).push (PySem.HandSPX.excO C hp.objs.size)).get? (hp.objs.size + 1) = some (PySem.HandSPX.excO C hp.objs.size) := by heap_get
  have I2 : Inv X pins σ (upd H1 (hp.objs.size + 1) (exo (hp.objs.size + 1) C none)) ⟨(hp.push (PySem.W.kdv_tup us)).push (PySem.HandSPX.excO C hp.objs.size), g, dr, tk, os⟩ :=
    I1.laid (t' := tk) (a := hp.objs.size + 1) (o := exo (hp.objs.size + 1) C none) (h' := (hp.push (PySem.W.kdv_tup us)).push (PySem.HandSPX.excO C hp.objs.size)) kk hsz (exo_ok hget)
  have r2 : Vals (V.ref (hp.objs.size + 1) :: (vs ++ dvs)) (Value.ref (hp.objs.size + 1) :: (us ++ ds)) := .cons rfl (r1.append hd)
  have hl : (Value.ref (hp.objs.size + 1) :: us ++ ds).length = ps.length := by
    have e := r2.length
    rw [F1.len _ _ _ _ hq] at e
    exact e.symm
  have hus : us.length ≤ sizeLine := by
    rw [← Paired.length r1, sizeLine_eq]
    omega
  refine wpAny_call (PySem.HandSPX.call_own bx.eb (fun Y => PySem.W.excTail_contains Y bm hbm) (I1.kIn _ _ hC) (PySem.W.looks_findIn I1.kIn iC) (fun self => PySem.W.bind_fn I1.kIn self tI) hus
    (codeAny_mono (F1.run _ X.stack _ _ ⟨Value.ref (hp.objs.size + 1) :: us, []⟩ (Value.ref (hp.objs.size + 1) :: (us ++ ds)) _ _ (fun _ _ _ => False) (hr.make C us []) (I2.env0.make C us []) (hb _ (Value.ref (hp.objs.size + 1) :: us) I2.kIn hl) r2 hq) fun r s' hq' => ?_))
  cases r with
  | error er => exact hx pins σ _ _ er s' I2 hq'
  | ok fl =>
    cases fl with
    | ret u =>
      obtain ⟨v, H2, os2, bare2, un2, hok2, rv, ev, d, fs, ea, ed, hd1, q2⟩ := hq'
      subst ev
      obtain ⟨h2, g2, d2, t2, os'⟩ := s'
      exact ⟨rv, mk_end (raises_own T.exC T.tyC) I1 hsz kk un2 hok2 os2 bare2 ea ed hd1 q2⟩
    | next => exact False.elim hq'
    | brk => exact False.elim hq'
    | cont => exact False.elim hq'

/-- __init__ of an error with its word and its row -/
def spErrR (C : Addr) (wd : Str) : Sp := fun vs H Q _ => ∃ (a : Addr) (r : Int), vs = [.ref a, .int r] ∧ r.natAbs < 10 ^ 9 ∧ H a = some (exo a C none) ∧ ∀ dx, H dx = none → dx ≠ a → Q .non (upd (upd (upd H dx (exd dx [("word", .str wd)])) a (exo a C (some dx))) dx (exd dx [("row", .int r), ("word", .str wd)]))
theorem mk_errR {C : Addr} {wd : Str} {r : Int} {te : TE} {σ : L2.St} {H : Hp} {Q : XK} (ht : Ev te σ H (.int r)) (hr : r.natAbs < 10 ^ 9) (h : ∀ d H', Ex H H' → H d = none → H' d = some (.xd [("row", .int r), ("word", .str wd)]) → Q (.ref C) (some d) H') : tMkO C (spErrR C wd) [] (tCons te tNil) σ H Q := by
  refine ht H (Ex.refl _) _ fun H1 e1 => ⟨by show 1 ≤ 1000; decide, fun a na => ⟨a, r, rfl, hr, upd_same, fun dx nd ne => ⟨rfl, dx, [("row", .int r), ("word", .str wd)], ?_, upd_same, ?_, ?_⟩⟩⟩
  · rw [upd_ne (Ne.symm ne), upd_same]
  · rw [upd_ne ne] at nd
    exact nd
  · have nd' : H1 dx = none := by
      rw [upd_ne ne] at nd
      exact nd
    refine h dx _ (fun b o e => ?_) (fresh_back e1 nd') upd_same
    have e' := e1 _ _ e
    have nb : b ≠ dx := ne_of_none e' nd'
    have na' : b ≠ a := ne_of_none e' na
    rw [upd_ne nb, del_ne na', upd_ne nb, upd_ne na', upd_ne nb, upd_ne na']
    exact e'
/-- an own error class x at C with the word wd and a row, as it stands -/
structure ErrR (P : Program) (w : World) (K : PySem.W.Frag) (mg : Str → Option Value) (base : Heap) (k : Nat) (x : Str) (C : Addr) (wd : Str) : Prop where
  ox : ∃ (B newId initId : String) (bmB : List Value), BasX B newId initId bmB ∧ OexG K C newId bmB
  gx : mg x = some (.ref C)
  ini : ∃ (fI : Addr) (fd : FuncData) (ps : List Str), PySem.W.findIn K (.ref C) "__init__" = some (some (.ref fI)) ∧ PySem.W.typeIn K (.ref fI) = some (.type "function") ∧ FnOk P w K mg base CX0 k fI fd ps (spErrR C wd) ∧ Binds K fd ps []
theorem pmk_errR {X : Cx} {k j : Nat} {x : Str} {C : Addr} {wd : Str} {p pos : Pos} {e : Expr} {te : TE} (Er : ErrR X.prog X.w X.K X.mg X.base k x C wd) (hr : Room j X.A) (hk : k + 1 ≤ j) (hg : Gl X x) (he : PE X e te) (hdb : (x == ("__debug__" : Str)) = false := by decide) (hs : starEach [e] X.env = (false, eval e X.env) :: starEach [] X.env := by rfl) :
    PMk X (.Call (.Name x p) [e] [] pos) (fun σ H Q => ∃ r : Int, Ev te σ H (.int r) ∧ r.natAbs < 10 ^ 9 ∧ ∀ d H', Ex H H' → H d = none → H' d = some (.xd [("row", .int r), ("word", .str wd)]) → Q (.ref C) (some d) H') := by
  obtain ⟨fI, fd, ps, h1, h2, h3, h4⟩ := Er.ini
  obtain ⟨B, newId, initId, bmB, bx, ox⟩ := Er.ox
  intro pins s σ H Q I h
  obtain ⟨r, ht, hb, h⟩ := h
  exact pmk_oexA bx ox h1 h2 h3 (hr.mono hk) h4 .nil (fun _ _ _ _ _ _ _ z => z.elim) hg Er.gx (pa_cons he pa_nil hs) hdb hs rfl pins s σ H Q I (mk_errR ht hb h)
/-- __init__(self, row=..): super().__init__(f"row {row} .."); self.word = ..; self.row = row -/
theorem err_okR {P : Program} {w : World} {K : PySem.W.Frag} {mg : Str → Option Value} {base : Heap} {C f c cc : Addr} {fd : FuncData} {qual wd : Str} {st : Stmt} {y : V} {m1 m2 : Str} {k1 k2 : Nat} {q1 q2 q3 q4 q5 p0 p1 p2 p3 p4 pos0 p5 p6 p7 p8 p9 pa pb pc : Pos} {kd : Nat} {ar : Arg} {B newId initId : String} {bmB : List Value} (bx : BasX B newId initId bmB) (T : SupC P K mg C c cc B newId initId bmB) (I0 : InitAt K qual st f c cc [y] fd)
    (hno : PySem.W.findIn K (.ref C) "word" = some none) (hnr : PySem.W.findIn K (.ref C) "row" = some none) (hm1 : m1.length ≤ 100) (hm2 : m2.length ≤ 100)
    (hbd : defBody st = [.Expr (.Call (.Attribute (.Call (.Name "super" p0) [] [] p1) "__init__" p2) [.JoinedStr [.Constant (.str m1) k1 q1, .FormattedValue (.Name "row" q2) (-1) none q3, .Constant (.str m2) k2 q4] q5] [] p3) pos0, .Assign [.Attribute (.Name "self" p5) "word" p6] (.Constant (.str wd) kd p7) p8, .Assign [.Attribute (.Name "self" p9) "row" pa] (.Name "row" pb) pc])
    (S : NdefX.NScope ["self", "row", "__class__"] ["self", "row"] ["__class__"] (defScope st)) (hks : (defScope st).names.lookup ("super" : Str) = some .globalImplicit)
    (hp : ((defArgs st).posonlyargs ++ (defArgs st).args).head? = some ar) (har : ar.arg = "self") (hl0 : (defScope st).names.lookup ("self" : Str) = some .local) (hl1 : (defScope st).names.lookup ("row" : Str) = some .local) {pl : Addr → Sem Bool}
    (hi : ∀ L : Addr, interactive (NdefX.envF ⟨"__init__", qual, defArgs st, [], defScope st, [("__class__", cc)], c⟩ f L) = false)
    (hsw : ∀ L : Addr, swapsWith (.Call (.Attribute (.Call (.Name "super" p0) [] [] p1) "__init__" p2) [.JoinedStr [.Constant (.str m1) k1 q1, .FormattedValue (.Name "row" q2) (-1) none q3, .Constant (.str m2) k2 q4] q5] [] p3) none pos0.line (NdefX.envF ⟨"__init__", qual, defArgs st, [], defScope st, [("__class__", cc)], c⟩ f L) = pure false)
    (hs2 : ∀ L : Addr, swapsWith (.Constant (.str wd) kd p7) (some (.Attribute (.Name "self" p5) "word" p6)) p8.line (NdefX.envF ⟨"__init__", qual, defArgs st, [], defScope st, [("__class__", cc)], c⟩ f L) = pure false)
    (hs3 : ∀ L : Addr, swapsWith (.Name "row" pb) (some (.Attribute (.Name "self" p9) "row" pa)) pc.line (NdefX.envF ⟨"__init__", qual, defArgs st, [], defScope st, [("__class__", cc)], c⟩ f L) = pure false)
    (he : ∀ L : Addr, eval (.Call (.Attribute (.Call (.Name "super" p0) [] [] p1) "__init__" p2) [.JoinedStr [.Constant (.str m1) k1 q1, .FormattedValue (.Name "row" q2) (-1) none q3, .Constant (.str m2) k2 q4] q5] [] p3) (NdefX.envF ⟨"__init__", qual, defArgs st, [], defScope st, [("__class__", cc)], c⟩ f L) = (do
      let ov ← attributeBase (.Call (.Name "super" p0) [] [] p1) "__init__" (NdefX.envF ⟨"__init__", qual, defArgs st, [], defScope st, [("__class__", cc)], c⟩ f L) (eval (.Call (.Name "super" p0) [] [] p1) (NdefX.envF ⟨"__init__", qual, defArgs st, [], defScope st, [("__class__", cc)], c⟩ f L))
      standAt p2.atName
      let (ff, first) ← holding [ov] (getMethod ov "__init__" (pl L))
      callWith p3 ff first (backTo p3 (starEach [.JoinedStr [.Constant (.str m1) k1 q1, .FormattedValue (.Name "row" q2) (-1) none q3, .Constant (.str m2) k2 q4] q5] (NdefX.envF ⟨"__init__", qual, defArgs st, [], defScope st, [("__class__", cc)], c⟩ f L))) []))
    (hst : ∀ env : Env, starEach [.JoinedStr [.Constant (.str m1) k1 q1, .FormattedValue (.Name "row" q2) (-1) none q3, .Constant (.str m2) k2 q4] q5] env = [(false, eval (.JoinedStr [.Constant (.str m1) k1 q1, .FormattedValue (.Name "row" q2) (-1) none q3, .Constant (.str m2) k2 q4] q5) env)]) :
    FnOk P w K mg base CX0 1 f fd ["self", "row"] (spErrR C wd) := by
  obtain ⟨oc, od, dV, kV, doc, pm, an, ct, osl, rfl, lk, hcd, _⟩ := I0
  rw [hbd] at lk ⊢
  refine sup_ok (k := 0) (N := ["self", "row", "__class__"]) bx T lk hcd S hks hp (by rw [har] <;> rfl) (by rw [har]; exact hl0) (fun vs H Q E h => ?_) (fun A outer s H vs Q E hr h => ?_) hst hi hsw he
  · obtain ⟨a, y, rfl, _⟩ := h
    rfl
  · obtain ⟨a, r, rfl, hr9, ha, k⟩ := h
    have e0 : (Str.empty : Str).length = 0 := rfl
    have ln := numS_len hr9
    have la : ∀ x y : Str, (x ++ y).length = x.length + y.length := fun x y => by rw [TL.len_tl, TL.tl_append, List.length_append, ← TL.len_tl, ← TL.len_tl]
    refine ⟨a, tCons (fun σ H Q => tJs [tC (.str m1), tFmt (tVar 1), tC (.str m2)] Str.empty σ H fun out H1 => Q (.str out) H1) tNil, tSeq (tPut K newId bmB "word" (tVar 0) (tC (.str wd))) (tPut K newId bmB "row" (tVar 0) (tVar 1)), rfl, ha, pa_cons (pe_joined (.cons pe_str (.cons (pe_fmt (pv 1 rfl (.inl hl1))) (.cons pe_str .nil)))) pa_nil (hst _), pss_cons (ps_put bx (pv 0 rfl (.inl hl0)) pe_str (hs2 _)) (pss_one (ps_put bx (pv 0 rfl (.inl hl0)) (pv 1 rfl (.inl hl1)) (hs3 _))), ?_⟩
    refine ⟨m1, rfl, sz_of (by rw [la]; omega), .int r, rfl, .inr ⟨r, rfl, Nat.lt_of_lt_of_le (PySem.Flt.log2_lt_of (k := 30) (by decide) (Nat.lt_of_lt_of_le hr9 (by decide))) (by decide), numS r, rfl, sz_of (by rw [la, la]; omega), m2, rfl, sz_of (by rw [la, la, la]; omega), ?_⟩⟩
    refine ⟨Nat.succ_le_succ (Nat.zero_le _), ha, .ref a, rfl, a, C, rfl, T.ox, hno, .inl ⟨ha, fun dx n ne => ?_⟩⟩
    refine ⟨.int r, rfl, .ref a, rfl, a, C, rfl, T.ox, hnr, .inr ⟨dx, [("word", .str wd)], ⟨upd_same, ?_, by simp⟩, k dx n ne⟩⟩
    rw [upd_ne ne, upd_same]
end Hs
namespace Hs
open PySem PySem.Spec PyProof.Rows L2 Evl
/-! ### the head: what the run of the top leaves -/
def oclsB (K : PySem.W.Frag) (C : Addr) (newId : String) (bmB : List Value) : Bool := match K.lookup C with
  | some ⟨.type "type", _, .cls cd, sl⟩ => (match cd.mro, sl.toList with
    | .ref C' :: bm, [_, _, _, _, some (.builtin n), _] => C' == C && n == newId && !cd.hasDel && cd.hasDict && PySem.W.excTail bmB bm
    | _, _ => false)
  | _ => false
theorem ocls_of {K : PySem.W.Frag} {C : Addr} {newId : String} {bmB : List Value} (q : oclsB K C newId bmB = true) : ∃ nm q N bs bm sn sub ab col dd k0 k1 k2 k3 k5, K.lookup C = some (excClassObj nm q C N bs bm true sn sub ab col dd k0 k1 k2 k3 k5 newId) ∧ PySem.W.excTail bmB bm = true := by
  unfold oclsB at q
  split at q
  · rename_i dd cd sl ho
    split at q
    · rename_i C' bm k0 k1 k2 k3 n k5 hm hs
      simp only [Bool.and_eq_true, beq_iff_eq, Bool.not_eq_true'] at q
      obtain ⟨⟨⟨⟨rfl, rfl⟩, hdel⟩, hdc⟩, ht⟩ := q
      obtain ⟨nm, bs, mro, ns, qn, hd, sn, sub, ab, col, del⟩ := cd
      dsimp only at hm hdel hdc
      subst hm hdel hdc
      have hsl : sl = #[k0, k1, k2, k3, some (.builtin n), k5] := by
        obtain ⟨l⟩ := sl
        simp only at hs
        rw [hs]
      subst hsl
      exact ⟨nm, qn, ns, bs, bm, sn, sub, ab, col, dd, k0, k1, k2, k3, k5, ho, ht⟩
    · cases q
  · cases q
def oexB (K : PySem.W.Frag) (C : Addr) (newId : String) (bmB : List Value) : Bool := oclsB K C newId bmB && (He.eqO (PySem.W.findIn K (.ref C) "__setattr__") (some (some (.builtin "object.__setattr__"))) && (decide (PySem.W.subIn K (.ref C) (.type "BaseException") = some true) && (decide (PySem.W.typeIn K (.ref C) = some (.type "type")) && PySem.W.keepIn K (.ref C))))
theorem oexB_ok {K : PySem.W.Frag} {C : Addr} {newId : String} {bmB : List Value} (h : oexB K C newId bmB = true) : OexG K C newId bmB := by
  obtain ⟨h1, h⟩ := He.ba h
  obtain ⟨h2, h⟩ := He.ba h
  obtain ⟨h3, h⟩ := He.ba h
  obtain ⟨h4, h5⟩ := He.ba h
  exact ⟨ocls_of h1, He.eqO_ok h2, of_decide_eq_true h3, of_decide_eq_true h4, h5⟩
/-- an own error: its class's name, the def of its __init__, its default, the file of its code -/
structure ErrD where
  cls : Str
  qual : Str
  st : Stmt
  why : V
  file : Str
  bas : String
  nid : String
  iid : String
abbrev FnC : Type := Option (Str × Str × Arguments × FuncBody × Scope × Addr × List Str × Addr)
def iniA (K : PySem.W.Frag) (x : Str) : Addr := He.ma K (He.ga K x) "__init__"
def fnC (K : PySem.W.Frag) (x : Str) : FnC := match K.lookup (iniA K x) with
  | some ⟨_, _, .func fd, _⟩ => some (fd.name, fd.qualname, fd.params, fd.body, fd.scope, fd.globals, fd.closure.map (·.1), fd.builtins)
  | _ => none
def ErrD.val (d : ErrD) : FnC := some ("__init__", d.qual, defArgs d.st, .stmts (defBody d.st), defScope d.st, mainGlobals, ["__class__"], builtinsNs)
def fileB (K : PySem.W.Frag) (c : Addr) (file : Str) : Bool := match K.lookup c with
  | some ⟨_, _, .fields vs, _⟩ => (match (vs[2]? : Option Value) with
    | some (.str f _) => file == f
    | _ => false)
  | _ => false
def cellB (K : PySem.W.Frag) (cc C : Addr) : Bool := match K.lookup cc with
  | some ⟨_, _, .cell (some (.ref C')), _⟩ => decide (C' = C)
  | _ => false
def fileV (K : PySem.W.Frag) (file : Str) : Value → Bool
  | .ref c => fileB K c file
  | _ => false
def cloB (K : PySem.W.Frag) (C : Addr) : List (Str × Addr) → Bool
  | [(_, cc)] => cellB K cc C
  | _ => false
/-- the __init__ of d: its code object, its cell -/
def iniB (K : PySem.W.Frag) (d : ErrD) : Bool := match K.lookup (iniA K d.cls) with
  | some ⟨_, _, .func fd, _⟩ => PySem.W.codeIn K fd.code d.qual && (He.dflB K fd.defaults [d.why] && (fileV K d.file fd.code && cloB K (He.ga K d.cls) fd.closure))
  | _ => false
def errB (K : PySem.W.Frag) (d : ErrD) : Bool := oexB K (He.ga K d.cls) d.nid (tailOf d.bas) && (iniB K d && (decide (PySem.W.mroIn K (He.ga K d.cls) (.ref (He.ga K d.cls)) = some true) && (He.eqO (PySem.W.ks_superIn K (He.ga K d.cls) (He.ga K d.cls) "__init__") (some (some (.builtin d.iid))) &&
  (decide (PySem.W.subIn K (.ref (He.ga K d.cls)) (.type d.bas) = some true) && (He.eqO (PySem.W.nsIn K cStatics "thirdparty.any") (some none) && (He.eqO (PySem.W.findIn K (.ref (He.ga K d.cls)) "__init__") (some (some (.ref (iniA K d.cls)))) &&
  (decide (PySem.W.typeIn K (.ref (iniA K d.cls)) = some (.type "function")) && He.eqO (PySem.W.findIn K (.ref (He.ga K d.cls)) "word") (some none))))))))
theorem fileB_ok {K : PySem.W.Frag} {c : Addr} {file : Str} (h : fileB K c file = true) : ∃ (ccl : Value) (cdd : Option Addr) (vs : Array Value) (ccs : Array (Option Value)) (f : Str) (tf : Tok), K.lookup c = some ⟨ccl, cdd, .fields vs, ccs⟩ ∧ vs[2]? = some (.str f tf) ∧ (file == f) = true := by
  unfold fileB at h
  split at h
  · rename_i ccl cdd vs ccs hk
    split at h
    · rename_i f tf hv
      exact ⟨ccl, cdd, vs, ccs, f, tf, hk, hv, h⟩
    · cases h
  · cases h
theorem cellB_ok {K : PySem.W.Frag} {cc C : Addr} (h : cellB K cc C = true) : ∃ (cl : Value) (cld : Option Addr) (csl : Array (Option Value)), K.lookup cc = some ⟨cl, cld, .cell (some (.ref C)), csl⟩ := by
  unfold cellB at h
  split at h
  · rename_i cl cld C' csl hk
    have e : C' = C := of_decide_eq_true h
    subst e
    exact ⟨cl, cld, csl, hk⟩
  · cases h
theorem iniB_ok {K : PySem.W.Frag} {d : ErrD} (e : fnC K d.cls = d.val) (h : iniB K d = true) :
    ∃ (c cc : Addr) (fd : FuncData), InitAt K d.qual d.st (iniA K d.cls) c cc [d.why] fd ∧ (∃ (ccl : Value) (cdd : Option Addr) (vs : Array Value) (ccs : Array (Option Value)) (f : Str) (tf : Tok), K.lookup c = some ⟨ccl, cdd, .fields vs, ccs⟩ ∧ vs[2]? = some (.str f tf) ∧ (d.file == f) = true) ∧
      ∃ (cl : Value) (cld : Option Addr) (csl : Array (Option Value)), K.lookup cc = some ⟨cl, cld, .cell (some (.ref (He.ga K d.cls))), csl⟩ := by
  unfold fnC at e
  unfold iniB at h
  cases q : K.lookup (iniA K d.cls) with
  | none =>
    rw [q] at h
    cases h
  | some o =>
    obtain ⟨oc, od, dt, osl⟩ := o
    rw [q] at h e
    cases dt with
    | func fd =>
      obtain ⟨n1, n2, n3, n4, n5, n6, n7, n8, n9, n10, n11, n12, n13, n14, n15⟩ := fd
      have e2 : (some (n1, n2, n3, n4, n5, n6, n7.map (·.1), n15) : FnC) = (some (("__init__" : Str), d.qual, defArgs d.st, FuncBody.stmts (defBody d.st), defScope d.st, mainGlobals, [("__class__" : Str)], builtinsNs) : FnC) := e
      simp only [Option.some.injEq, Prod.mk.injEq] at e2
      obtain ⟨h1, h2, h3, h4, h5, h6, h7, h8⟩ := e2
      subst h1 h2 h3 h4 h5 h6 h8
      have h0 : (PySem.W.codeIn K n13 d.qual && (He.dflB K n8 [d.why] && (fileV K d.file n13 && cloB K (He.ga K d.cls) n7))) = true := h
      obtain ⟨k1, h0⟩ := He.ba h0
      obtain ⟨k2, h0⟩ := He.ba h0
      obtain ⟨k3, k4⟩ := He.ba h0
      obtain ⟨c, rfl⟩ := He.codeIn_ref k1
      clear e h
      cases n7 with
      | nil => cases h7
      | cons z r =>
        cases r with
        | cons z2 r2 =>
          injection h7 with _ h9
          cases h9
        | nil =>
          obtain ⟨y, cc⟩ := z
          have ey : y = "__class__" := by
            have z : [y] = [("__class__" : Str)] := h7
            injection z
          subst ey
          exact ⟨c, cc, _, ⟨oc, od, n8, n9, n10, n11, n12, n14, osl, rfl, q, k1, He.dflB_ok k2⟩, fileB_ok k3, cellB_ok k4⟩
    | _ => cases h
/-! ### the Hook -/
/-- what is looked at: the module's names, and the statics -/
structure Sel where
  names : List Str
  meths : List (Str × Str)
def refsG (g : Addr → Option Obj) (a : Addr) : List Addr := match g a with
  | some o => He.refsD o
  | none => []
def selA (n : Sel) (g : Addr → Option Obj) : List Addr :=
  let K0 := He.frT g [mainGlobals]
  let l1 := n.names.map (He.ga K0)
  let l2 := l1.flatMap (refsG g)
  let K1 := He.frT g (cStatics :: mainGlobals :: (l1 ++ l2))
  let l3 := n.meths.map fun p => He.ma K1 (He.ga K0 p.1) p.2
  cStatics :: mainGlobals :: (l1 ++ (l2 ++ (l3 ++ l3.flatMap (refsG g))))
def asY (n : Sel) (g : Addr → Option Obj) : List Addr := selA n g
structure SaysY (fa : List He.Fa) (fn : List He.DefD) (ts : List He.Tab) (tf : List He.Defn) (er : List ErrD) (ex : PySem.W.Frag → Bool) (w : World) (h : Heap) (K : PySem.W.Frag) : Prop where
  x : He.SaysX fa fn ts tf ex w h K
  er : ∀ d ∈ er, errB K d = true ∧ fnC K d.cls = d.val
abbrev AlY : Type := He.AlX × (Bool × List FnC)
def obsK (fa : List He.Fa) (fn : List He.DefD) (ts : List He.Tab) (tf : List He.Defn) (er : List ErrD) (ex : PySem.W.Frag → Bool) (g : Addr → Option Obj) (K : PySem.W.Frag) : AlY := ((He.obsT fa fn ts K, ex K && He.tabsB g tf K), er.all (errB K), er.map fun d => fnC K d.cls)
def obsY (n : Sel) (fa : List He.Fa) (fn : List He.DefD) (ts : List He.Tab) (tf : List He.Defn) (er : List ErrD) (ex : PySem.W.Frag → Bool) (g : Addr → Option Obj) : AlY := obsK fa fn ts tf er ex g (He.frT g (asY n g))
def valY (fn : List He.DefD) (ts : List He.Tab) (er : List ErrD) (w : World) : AlY := (He.valX fn ts w, true, er.map ErrD.val)
theorem saysY_of {n : Sel} {fa : List He.Fa} {fn : List He.DefD} {ts : List He.Tab} {tf : List He.Defn} {er : List ErrD} {ex : PySem.W.Frag → Bool} {w : World} {h : Heap} (e : obsY n fa fn ts tf er ex h.get? = valY fn ts er w) : SaysY fa fn ts tf er ex w h (He.frT h.get? (asY n h.get?)) := by
  have e1 : He.obsT fa fn ts (He.frT h.get? (asY n h.get?)) = He.valT fn ts w := congrArg (fun z : AlY => z.1.1) e
  have e2 : (ex (He.frT h.get? (asY n h.get?)) && He.tabsB h.get? tf (He.frT h.get? (asY n h.get?))) = true := congrArg (fun z : AlY => z.1.2) e
  have e3 : er.all (errB (He.frT h.get? (asY n h.get?))) = true := congrArg (fun z : AlY => z.2.1) e
  have e4 : er.map (fun d => fnC (He.frT h.get? (asY n h.get?)) d.cls) = er.map ErrD.val := congrArg (fun z : AlY => z.2.2) e
  generalize hK : He.frT h.get? (asY n h.get?) = K at e1 e2 e3 e4 ⊢
  obtain ⟨h1, h2⟩ := He.ba e2
  have key : ∀ p ∈ tf, PySem.W.codeHdIn K (He.cT K p).1 (He.cT K p).2 = true ∧ ∃ o, h.get? (He.cT K p).2 = some o ∧ He.emptyTab o = true := fun p hp => by
    obtain ⟨h3, h4⟩ := He.ba (List.all_eq_true.mp h2 p hp)
    refine ⟨h3, ?_⟩
    cases q : h.get? (He.cT K p).2 with
    | none =>
      rw [q] at h4
      cases h4
    | some o =>
      rw [q] at h4
      exact ⟨o, rfl, h4⟩
  refine ⟨⟨e1, h1, fun p hp => (key p hp).1, fun p hp => ?_, fun p hp => ?_⟩, fun d hd => ⟨List.all_eq_true.mp e3 d hd, List.map_inj_left.mp e4 d hd⟩⟩
  · obtain ⟨_, o, q, z⟩ := key p hp
    have y := He.frT_none (as := asY n h.get?) q z
    rw [hK] at y
    exact y
  · obtain ⟨_, o, q, z⟩ := key p hp
    rw [q, He.emptyTab_eq z]
def hookY (n : Sel) (fa : List He.Fa) (fn : List He.DefD) (ts : List He.Tab) (tf : List He.Defn) (er : List ErrD) (ex : PySem.W.Frag → Bool) : PySem.W.Hook where
  α := AlY
  obs := fun s => obsY n fa fn ts tf er ex s.heap.get?
  val := fun w => valY fn ts er w
  says := fun w h => ∃ K : PySem.W.Frag, K.In h ∧ SaysY fa fn ts tf er ex w h K
  of := fun _ _ e => ⟨_, He.frT_in, saysY_of e⟩
  keeps := fun _ _ _ ⟨K, hK, c⟩ k => ⟨K, PySem.W.Frag.In.keeps hK k, ⟨⟨c.x.t, c.x.more, c.x.hd, c.x.out, fun p hp => k _ _ (c.x.empty p hp)⟩, c.er⟩⟩
theorem obsY_eq {n : Sel} {fa : List He.Fa} {fn : List He.DefD} {ts : List He.Tab} {tf : List He.Defn} {er : List ErrD} {ex : PySem.W.Frag → Bool} {g : Addr → Option Obj} {s : Shared} (h : ∀ a, g a = s.heap.get? a) : obsY n fa fn ts tf er ex g = (hookY n fa fn ts tf er ex).obs s := by
  have e : g = s.heap.get? := funext h
  rw [e] <;> rfl
/-- a text that is looked up -/
def strB (r : Option (Option Value)) (z : Str) : Bool := match r with
  | some (some (.str y _)) => decide (y = z)
  | _ => false
theorem strB_ok {r : Option (Option Value)} {z : Str} (h : strB r z = true) : ∃ t, r = some (some (.str z t)) := by
  unfold strB at h
  split at h
  · rename_i y t
    exact ⟨t, by rw [of_decide_eq_true h]⟩
  · cases h
end Hs
namespace Hs
open PySem PySem.Spec PyProof.Rows L2 Evl
/-! ### a table of texts by texts, entry by entry; an own error with a row -/
def wordRB (K : PySem.W.Frag) (C cN cL cK cB : Addr) : Bool := decide (PySem.W.exmOne K (.ref C) (.ref cN) = some false) && (decide (PySem.W.exmAny K (.ref C) [.ref cL, .ref cK] = some false) && (decide (PySem.W.exmOne K (.ref C) (.ref cB) = some true) && (xfB K C && (He.eqO (PySem.W.findIn K (.ref C) "word") (some none) && He.eqO (PySem.W.findIn K (.ref C) "row") (some none)))))
def entB : List DictEntry → List (Str × Str) → Bool
  | [], [] => true
  | e :: es, p :: fs => (match e.key with | .str k _ => decide (k = p.1) | _ => false) && ((match e.val with | .str v _ => decide (v = p.2) | _ => false) && (!e.refKey && entB es fs))
  | _, _ => false
def textsB (K : PySem.W.Frag) (d : Addr) (fs : List (Str × Str)) : Bool := match K.lookup d with
  | some ⟨_, _, .dict es _, _⟩ => entB es.toList fs
  | _ => false
theorem ent_find {w : Str} : ∀ {es : List DictEntry} {fs : List (Str × Str)}, entB es fs = true → es.any (·.refKey) = false ∧ ((es.find? (·.key.isStr w) = none ∧ fs.find? (fun p => decide (p.1 = w)) = none) ∨ ∃ (e : DictEntry) (p : Str × Str) (t : Tok), es.find? (·.key.isStr w) = some e ∧ fs.find? (fun p => decide (p.1 = w)) = some p ∧ e.val = .str p.2 t)
  | [], [], _ => ⟨rfl, .inl ⟨rfl, rfl⟩⟩
  | [], _ :: _, h => by cases h
  | _ :: _, [], h => by cases h
  | e :: es, p :: fs, h => by
    obtain ⟨h1, h⟩ := He.ba h
    obtain ⟨h2, h⟩ := He.ba h
    obtain ⟨h3, h4⟩ := He.ba h
    obtain ⟨i1, i2⟩ := ent_find (w := w) h4
    have h3 : e.refKey = false := by simpa using h3
    refine ⟨by rw [List.any_cons, h3, i1] <;> rfl, ?_⟩
    split at h1
    · rename_i k tk hk
      have h1 : k = p.1 := of_decide_eq_true h1
      split at h2
      · rename_i v tv hv
        have h2 : v = p.2 := of_decide_eq_true h2
        have eq : e.key.isStr w = decide (p.1 = w) := by
          rw [hk, ← h1]
          by_cases hw : k = w
          · rw [decide_eq_true hw, hw]
            show (w == w) = true
            exact beq_self_eq_true w
          · rw [decide_eq_false hw]
            show (k == w) = false
            exact beq_eq_false_iff_ne.mpr hw
        by_cases hw : p.1 = w
        · refine .inr ⟨e, p, tv, ?_, ?_, by rw [hv, h2]⟩
          · rw [List.find?_cons, eq, decide_eq_true hw]
          · rw [List.find?_cons, decide_eq_true hw]
        · rw [List.find?_cons, List.find?_cons, eq, decide_eq_false hw]
          exact i2
      · cases h2
    · cases h1
end Hs
namespace Hs
open PySem PySem.Spec PyProof.Rows L2 Evl
/-! ### the run of the top in two halves: each is a run of its own, of less memory -/
theorem map_two {α β γ δ : Type} {x : Option α} {f : α → β} {g : α → γ} {k : α → δ} {a : β} {b : γ} {c : δ} (h1 : x.map (fun s => (f s, g s)) = some (a, b)) (h2 : x.map k = some c) : x.map (fun s => (f s, g s, k s)) = some (a, b, c) := by
  cases x with
  | none => cases h1
  | some y =>
    have e1 : (f y, g y) = (a, b) := Option.some.inj h1
    have e2 : k y = c := Option.some.inj h2
    obtain ⟨e3, e4⟩ := Prod.mk.inj e1
    show some (f y, g y, k y) = some (a, b, c)
    rw [e2, e3, e4]
section
open PySem.W HandSHeadRun
def RunA (r : OpenRow) (q : Program) (M : Nat) (loose : List Str) (w : World) : Prop :=
  ∀ os : OsState, (endF (stepQ (denQ tabQ) r.prog w) M r.prog w os).map (fun s => (looksF r.prog (boot_heap w.params) s.abs, seenQ q loose (importedModules r.prog.main.body) (fun s => xlAt q [] s && recOk r.toRowW.records s) s.abs)) = some (true, openGood q loose)
def RunB (r : OpenRow) (H : Hook) (ob : SharedT → H.α) (M : Nat) (w : World) : Prop :=
  ∀ os : OsState, (endF (stepQ (denQ tabQ) r.prog w) M r.prog w os).map ob = some (H.val w)
theorem run_ab {r : OpenRow} {q : Program} {H : Hook} {ob : SharedT → H.α} {M : Nat} {loose : List Str} {w : World} (a : RunA r q M loose w) (b : RunB r H ob M w) : RunEq r q H ob M loose w := fun os => map_two (a os) (b os)
end
end Hs
namespace Hs
open PySem PySem.Spec PyProof.Rows L2 Evl
/-! ### the facts of the top -/
def dsIsNum : He.DefD := ⟨("is_number", none), "is_number", "is_number", defArgs (top 10), defBody (top 10), defScope (top 10), [], []⟩
def dsReadTh : He.DefD := ⟨("read_thing", none), "read_thing", "read_thing", defArgs (top 13), defBody (top 13), defScope (top 13), [], []⟩
def dsReadNs : He.DefD := ⟨("read_numbers", none), "read_numbers", "read_numbers", defArgs (top 11), defBody (top 11), defScope (top 11), [], []⟩
def dsReadCh : He.DefD := ⟨("read_choices", none), "read_choices", "read_choices", defArgs (top 12), defBody (top 12), defScope (top 12), [], []⟩
def dsReadRow : He.DefD := ⟨("read_row", none), "read_row", "read_row", defArgs (top 14), defBody (top 14), defScope (top 14), [], []⟩
def dsReadFrom : He.DefD := ⟨("read_from", none), "read_from", "read_from", defArgs (top 15), defBody (top 15), defScope (top 15), [], []⟩
def dsReadDeed : He.DefD := ⟨("read_deed", none), "read_deed", "read_deed", defArgs (top 16), defBody (top 16), defScope (top 16), [], []⟩
def dsSame : He.DefD := ⟨("_law_same", none), "_law_same", "_law_same", defArgs (top 21), defBody (top 21), defScope (top 21), [], []⟩
def dsTried : He.DefD := ⟨("_law_tried", none), "_law_tried", "_law_tried", defArgs (top 22), defBody (top 22), defScope (top 22), [], []⟩
def dsPull : He.DefD := ⟨("_law_pull", none), "_law_pull", "_law_pull", defArgs (top 19), defBody (top 19), defScope (top 19), [], []⟩
def dsBag : He.DefD := ⟨("_law_bag", none), "_law_bag", "_law_bag", defArgs (top 18), defBody (top 18), defScope (top 18), [], []⟩
def dsOne : He.DefD := ⟨("_law_one", none), "_law_one", "_law_one", defArgs (top 20), defBody (top 20), defScope (top 20), [], []⟩
def dsWideN : He.DefD := ⟨("_law_wide_number", none), "_law_wide_number", "_law_wide_number", defArgs (top 28), defBody (top 28), defScope (top 28), [], []⟩
def dsWordL : He.DefD := ⟨("_law_word", none), "_law_word", "_law_word", defArgs (top 29), defBody (top 29), defScope (top 29), [], []⟩
def dsWideD : He.DefD := ⟨("_law_wide_deed", none), "_law_wide_deed", "_law_wide_deed", defArgs (top 30), defBody (top 30), defScope (top 30), [], []⟩
def dsLRow : He.DefD := ⟨("_law_row_text", none), "_law_row_text", "_law_row_text", defArgs (top 31), defBody (top 31), defScope (top 31), [], []⟩
def dsFig : He.DefD := ⟨("_law_figures", none), "_law_figures", "_law_figures", defArgs (top 23), defBody (top 23), defScope (top 23), [], []⟩
def dsFigs : He.DefD := ⟨("_law_figures_all", none), "_law_figures_all", "_law_figures_all", defArgs (top 24), defBody (top 24), defScope (top 24), [], []⟩
def dsLRd : He.DefD := ⟨("_law_read_row", none), "_law_read_row", "_law_read_row", defArgs (top 25), defBody (top 25), defScope (top 25), [], []⟩
def dsRAt : He.DefD := ⟨("_law_read_at", none), "_law_read_at", "_law_read_at", defArgs (top 26), defBody (top 26), defScope (top 26), [], []⟩
def dsTDue : He.DefD := ⟨("_law_text_due", none), "_law_text_due", "_law_text_due", defArgs (top 32), defBody (top 32), defScope (top 32), [], []⟩
def dsSpoil : He.DefD := ⟨("_law_spoilt", none), "_law_spoilt", "_law_spoilt", defArgs (top 27), defBody (top 27), defScope (top 27), [], []⟩
def dsLaw : He.DefD := ⟨("law", none), "law", "law", defArgs (top 33), defBody (top 33), defScope (top 33), [], []⟩
def fn : List He.DefD := [dsIsNum, dsReadTh, dsReadNs, dsReadCh, dsReadRow, dsReadFrom, dsReadDeed, dsSame, dsTried, dsPull, dsBag, dsOne, dsWideN, dsWordL, dsWideD, dsLRow, dsFig, dsFigs, dsLRd, dsRAt, dsTDue, dsSpoil, dsLaw]
def fa : List He.Fa := [.glo "is_number", .glo "read_thing", .glo "read_numbers", .glo "read_choices", .glo "read_row", .glo "read_from", .glo "read_deed", .glo "_law_same", .glo "_law_tried", .glo "_law_pull", .glo "_law_bag", .glo "_law_one", .glo "_law_wide_number", .glo "_law_word", .glo "_law_wide_deed", .glo "_law_row_text", .glo "_law_figures", .glo "_law_figures_all", .glo "_law_read_row", .glo "_law_read_at", .glo "_law_text_due", .glo "_law_spoilt", .glo "law", .glo "BadText", .glo "ShadeError", .glo "Missing", .glo "Crowded", .glo "NoThing", .glo "NoLook", .glo "Looked", .glo "FORMS", .free "len", .free "list", .free "int", .free "str", .free "bool", .free "tuple", .free "isinstance", .free "all", .free "range", .free "zip", .free "min", .free "super"]
def tb : List He.Tab := [(fun K => He.ga K "FORMS", [("lamp" : Str), ("unsure" : Str), ("post" : Str), ("pane" : Str), ("move" : Str), ("switch" : Str), ("drop" : Str), ("look" : Str), ("strike" : Str), ("settle" : Str), ("many" : Str)])]
abbrev sBadText : Stmt := inClass (top 2) 0
def dBadText : ErrD := ⟨"BadText", "BadText.__init__", sBadText, (.int 0), "/claim/cut.py", "ValueError", "ValueError.__new__", "ValueError.__init__"⟩
def exB (K : PySem.W.Frag) : Bool := wordRB K (He.ga K "BadText") (He.ga K "NoThing") (He.ga K "NoLook") (He.ga K "Looked") (He.ga K "BadText") && (He.eqO (PySem.W.findIn K (.ref (He.ga K "BadText")) "row") (some none) && (textsB K (He.ga K "FORMS") ([("lamp", "nnnnn"), ("unsure", "c"), ("post", "nnnn"), ("pane", "nnnns"), ("move", "wnnn"), ("switch", "n"), ("drop", "wn"), ("look", "nnnnn"), ("strike", "n"), ("settle", "nn"), ("many", "d")] : List (Str × Str))))
def sel : Sel := ⟨[("is_number" : Str), ("read_thing" : Str), ("read_numbers" : Str), ("read_choices" : Str), ("read_row" : Str), ("read_from" : Str), ("read_deed" : Str), ("_law_same" : Str), ("_law_tried" : Str), ("_law_pull" : Str), ("_law_bag" : Str), ("_law_one" : Str), ("_law_wide_number" : Str), ("_law_word" : Str), ("_law_wide_deed" : Str), ("_law_row_text" : Str), ("_law_figures" : Str), ("_law_figures_all" : Str), ("_law_read_row" : Str), ("_law_read_at" : Str), ("_law_text_due" : Str), ("_law_spoilt" : Str), ("law" : Str), ("BadText" : Str), ("ShadeError" : Str), ("Missing" : Str), ("Crowded" : Str), ("NoThing" : Str), ("NoLook" : Str), ("Looked" : Str), ("FORMS" : Str)], [(("BadText" : Str), ("__init__" : Str))]⟩
abbrev R : PySem.W.OpenRow := PySem.W.OpenLaw.row PySem.Challenge.rw_hueshade_k54_texts_of_no_deed
abbrev hk : PySem.W.Hook := hookY sel fa fn tb [("law", none)] [dBadText] exB
def ob (s : PySem.W.SharedT) : AlY := obsY sel fa fn tb [("law", none)] [dBadText] exB (HandSHeadRun.getT s)
theorem ob_eq (s : PySem.W.SharedT) : ob s = hk.obs s.abs := obsY_eq (HandSHeadRun.getT_eq s)
abbrev others : List Str := [("__name__" : Str), ("ShadeError" : Str), ("BadText" : Str), ("Missing" : Str), ("NoThing" : Str), ("NoLook" : Str), ("Crowded" : Str), ("Looked" : Str), ("FORMS" : Str), ("is_number" : Str), ("read_numbers" : Str), ("read_choices" : Str), ("read_thing" : Str), ("read_row" : Str), ("read_from" : Str), ("read_deed" : Str), ("_law_bag" : Str), ("_law_pull" : Str), ("_law_one" : Str), ("_law_same" : Str), ("_law_tried" : Str), ("_law_figures" : Str), ("_law_figures_all" : Str), ("_law_read_row" : Str), ("_law_read_at" : Str), ("_law_spoilt" : Str), ("_law_wide_number" : Str), ("_law_word" : Str), ("_law_wide_deed" : Str), ("_law_row_text" : Str), ("_law_text_due" : Str)]
theorem runTa (w : World) : RunA R (PySem.W.view R.prog [33]) 20000 others (w.withFollow "special-get-raises" true) := by
  intro os
  kernel_rfl
theorem runTb (w : World) : RunB R hk ob 20000 (w.withFollow "special-get-raises" true) := by
  intro os
  kernel_rfl
theorem runFa (w : World) : RunA R (PySem.W.view R.prog [33]) 20000 others (w.withFollow "special-get-raises" false) := by
  intro os
  kernel_rfl
theorem runFb (w : World) : RunB R hk ob 20000 (w.withFollow "special-get-raises" false) := by
  intro os
  kernel_rfl
theorem run (w : World) : HandSHeadRun.RunEq R (PySem.W.view R.prog [33]) hk ob 20000 others w := by
  have h : ∀ b : Bool, HandSHeadRun.RunEq R (PySem.W.view R.prog [33]) hk ob 20000 others (w.withFollow "special-get-raises" b) := fun b => match b with
    | true => run_ab (runTa w) (runTb w)
    | false => run_ab (runFa w) (runFb w)
  have z := h (w.params.followText "special-get-raises")
  rwa [World.withFollow_self] at z
end Hs
namespace Hs
open PySem PySem.Spec PyProof.Rows L2 Evl
/-- an own def that may raise, by its promise; dvs: the defaults that fill up -/
structure OwnX (P : Program) (w : World) (K : PySem.W.Frag) (mg : Str → Option Value) (base : Heap) (k : Nat) (x : Str) (ps : List Str) (dvs : List V) (sp : Sp) : Prop where
  ex : ∃ (f : Addr) (fd : FuncData) (ds : List Value), FnOk P w K mg base (L2.CX P w) k f fd ps sp ∧ mg x = some (.ref f) ∧ PySem.W.keepIn K (.ref f) = true ∧ Vals dvs ds ∧ Binds K fd ps ds
/-- .. where it raises nothing -/
theorem pe_ownX {X : Cx} {k j : Nat} {x : Str} {ps : List Str} {dvs : List V} {sp : Sp} {e : Expr} {es : List Expr} {t : TA} {p pos : Pos} (O : OwnX X.prog X.w X.K X.mg X.base k x ps dvs sp) (hr : Room j X.A) (hk : k ≤ j) (hg : Gl X x) (ha : PA X (e :: es) t)
    (hdb : (x == ("__debug__" : Str)) = false := by decide) (he : starEach (e :: es) X.env = (false, eval e X.env) :: starEach es X.env := by rfl) (hpl : (backTo pos (starEach es X.env)).any (·.1) = false := by rfl) :
    PE X (.Call (.Name x p) (e :: es) [] pos) (tCall sp dvs E0 t) := by
  obtain ⟨f, fd, ds, F, m, kp, d, b⟩ := O.ex
  exact pe_call F (hr.mono hk) hg m kp b d passL ha hdb he hpl
/-- .. where what it raises is taken -/
theorem pe_ownT {X : Cx} {k j : Nat} {x : Str} {ps : List Str} {dvs : List V} {sp : Sp} {e : Expr} {es : List Expr} {t : TA} {p pos : Pos} {Ex : XK} (O : OwnX X.prog X.w X.K X.mg X.base k x ps dvs sp) (hr : Room j X.A) (hk : k ≤ j) (hg : Gl X x) (hx : Passes (L2.CX X.prog X.w) X Ex) (ha : PA X (e :: es) t)
    (hdb : (x == ("__debug__" : Str)) = false := by decide) (he : starEach (e :: es) X.env = (false, eval e X.env) :: starEach es X.env := by rfl) (hpl : (backTo pos (starEach es X.env)).any (·.1) = false := by rfl) :
    PE X (.Call (.Name x p) (e :: es) [] pos) (tCall sp dvs Ex t) := by
  obtain ⟨f, fd, ds, F, m, kp, d, b⟩ := O.ex
  exact pe_call F (hr.mono hk) hg m kp b d hx ha hdb he hpl
def rHas : R2 := fun x y H Q => ∃ (c : Nat) (z : Str), x = .str ⟨#[c]⟩ ∧ y = .str z ∧ Q (.bl (decide (c ∈ z.cps.toList))) H
theorem op_has {X : Cx} : OpR X (compareOp .In) rHas := op_in_sign
theorem pi_listK {X : Cx} {K : PySem.W.Frag} {tg l : Expr} {tl : TE} (hl : PE X l tl) (hK : X.K = K := by rfl) : PI X tg l (iList K tl) := by
  subst hK
  exact pi_list hl
end Hs
namespace Hs
open PySem PySem.Spec PyProof.Rows L2 Evl
/-! ### is a word a number: any word -/
def spNumA : Sp := fun vs H Q _ => ∃ w : Str, vs = [.str w] ∧ Asc w ∧ RetV (.bl (numOf w).isSome) H Q
section
variable {P : Program} {w : World} {K : PySem.W.Frag} {mg : Str → Option Value} {base : Heap} {f : Addr} {fd : FuncData}
abbrev sIsNum : Stmt := top 10
theorem scIsNum : FnScope ["word", "figures"] ["word"] (defScope sIsNum) := ⟨rfl, rfl, rfl, by decide +kernel, rfl, by decide +kernel, by decide +kernel⟩
theorem ok_numA (F : FnP K "is_number" sIsNum f fd) (g_len : mg "len" = none) (g_str : mg "str" = none) (g_int : mg "int" = none) : FnOk P w K mg base CX0 1 f fd ["word"] spNumA := by
  have nd := scIsNum.nd
  refine F.ok scIsNum (fun vs H Q E h => ?_) (fun cdv A outer s H vs Q E hr h => ⟨_, PSs.nox (pss_cons (ps_set (i := 1) nd rfl (.inl rfl) (pe_m1 PySem.F.slot_str_removeprefix PySem.F.type_str_removeprefix mt_removeprefix (pv 0) pe_str))
  (pss_one (ps_ret (pe_and (pe_m0 PySem.F.slot_str_isdecimal PySem.F.type_str_isdecimal mt_isdecimal (pv 1)) (pe_and (pe_cmpR op_le (pe_callB call_len_str (by rfl) g_len PySem.boot_len (pa_cons (pv 1) pa_nil)) pe_int (nomark _)) (pe_one (pe_cmpR op_eq (pe_callTy call_str_int (by rfl) g_str (by decide +kernel) (pa_cons (pe_callTy call_int_str (by rfl) g_int (by decide +kernel) (pa_cons (pv 0) pa_nil)) pa_nil)) (pv 0) (nomark _)))))))), ?_⟩)
  · obtain ⟨n, rfl, _⟩ := h
    rfl
  · obtain ⟨n, rfl, hn, k⟩ := h
    have k := k H (Ex.refl H)
    have lb : (Txt.removeprefix n "-").length ≤ n.length := by
      rw [TL.len_tl, TL.len_tl n, bare_tl]
      cases e : TL.tl n with
      | nil => exact Nat.le_refl _
      | cons c r =>
        unfold bare
        split
        · rename_i q
          rw [← (List.cons.inj q).2, List.length_cons]
          omega
        · exact Nat.le_refl _
    have hl := hn.2
    refine ⟨_, rfl, ⟨_, rfl⟩, _, _, rfl, rfl, sz_of (by omega), ?_⟩
    dsimp only [gName, List.set]
    have no : (Txt.isdecimal (Txt.removeprefix n "-") = false ∨ ¬ (Txt.removeprefix n "-").length ≤ 9) → (numOf n).isSome = false := fun h => by
      cases e : numOf n with
      | none => rfl
      | some v =>
        obtain ⟨a, b⟩ := numOf_some e
        rw [b] at h
        rcases h with h | h
        · rw [figs_dec] at h
          cases h
        · exact absurd (figs_len a) h
    cases hd : Txt.isdecimal (Txt.removeprefix n "-") with
    | false =>
      rw [no (.inl hd)] at k
      exact ⟨_, rfl, ⟨_, rfl⟩, _, rfl, rfl, True.intro, false, by rw [hd], ite_F rfl k⟩
    | true =>
      refine ⟨_, rfl, ⟨_, rfl⟩, _, rfl, rfl, True.intro, true, by rw [hd], ite_T rfl ?_⟩
      by_cases h9 : (Txt.removeprefix n "-").length ≤ 9
      · refine ⟨_, rfl, _, rfl, sz_of (by omega), _, _, rfl, rfl, true, congrArg V.bl (decide_eq_true (by omega)), ite_T rfl ?_⟩
        obtain ⟨v, hv, hv9, hl10⟩ := reads_of hn hd h9
        refine ⟨_, rfl, _, v, rfl, hv, by omega, v, rfl, ?_, _, rfl, rfl, ?_⟩
        · exact Nat.lt_of_lt_of_le (PySem.Flt.log2_lt_of (k := 30) (by decide) (Nat.lt_of_lt_of_le hv9 (by decide))) (by decide)
        · have e : (numOf n).isSome = decide (V.str (Str.ofString (toString v)) = V.str n) := by
            by_cases hq : n = numS v
            · rw [hq, numOf_numS hv9]
              exact (decide_eq_true rfl).symm
            · rw [decide_eq_false (fun z => hq (by injection z with z; exact z.symm))]
              cases e : numOf n with
              | none => rfl
              | some u =>
                obtain ⟨a, b⟩ := numOf_some e
                rw [b, numS_reads a] at hv
                cases hv
                exact absurd b hq
          rw [e] at k
          exact k
      · rw [no (.inr h9)] at k
        refine ⟨_, rfl, _, rfl, sz_of (by omega), _, _, rfl, rfl, false, congrArg V.bl (decide_eq_false (by omega)), ite_F rfl k⟩
end
end Hs
namespace Hs
open PySem PySem.Spec PyProof.Rows L2 Evl
/-! ### words read as numbers, a word as a thing: any words -/
theorem el_lcLs {K : PySem.W.Frag} {σ : L2.St} {H : Hp} {te tl : TE} {a : Addr} {xs : List V} {j : Nat} {vs : List Nat} (v : Nat → V) (h : Ev tl σ H (.ref a)) (hx : SqL K H a xs) (hz : xs.length ≤ 40000) (hw : ∀ x, wipe ((wipe σ vs).set j (some x)) vs = wipe σ vs)
    (he : ∀ (i : Nat) (x : V) H1, Ex H H1 → xs[i]? = some x → Ev te ((wipe σ vs).set j (some x)) H1 (v i)) : EvL (tLc (iList K tl) (gName j) tYes te vs) σ H (given xs.length (fun _ => true) v) :=
  fun H0 e Q q => h H0 e _ fun H1 e1 => ⟨a, rfl, ⟨xs, ex_l (e.trans e1) hx⟩, fun Dl hD =>
    lc_list (xs := xs) (Cw H1 (fun _ => true) v Dl) ⟨hD, Ex.new hD, upd_same⟩ (fun i H' _ p => ex_l ((e.trans e1).trans p.2.1) hx) (fun i x H' hi p => ⟨hw x, cw_turn p (by have := (List.getElem?_eq_some_iff.mp hi).1; omega) (fun H1 _ Q q => q H1 (Ex.refl H1)) (fun _ => he i x H1 (e.trans e1) hi)⟩)
      (fun H' p => q Dl H' (fresh_back e1 p.1) (e1.trans p.2.1) p.2.2)⟩
theorem given_mapA {α : Type} {xs : List α} {g : α → V} {d : α} : given xs.length (fun _ => true) (fun i => g (xs.getD i d)) = xs.map g := by
  unfold given
  rw [List.filter_eq_self.mpr fun _ _ => rfl]
  refine List.ext_getElem (by simp) fun i h1 h2 => ?_
  rw [List.getElem_map, List.getElem_range, List.getElem_map, List.getD_eq_getElem?_getD, List.getElem?_eq_getElem (by simpa using h2)]
  rfl
theorem str_at {ws : List Str} {i : Nat} {x : V} (h : (ws.map V.str)[i]? = some x) : ∃ w, ws[i]? = some w ∧ x = .str w := by
  rw [List.getElem?_map] at h
  obtain ⟨w, hw, rfl⟩ := Option.map_eq_some_iff.mp h
  exact ⟨w, hw, rfl⟩
/-- the answer of a reader of a list of numbers -/
def RetNs (o : Option (List Int)) (H : Hp) (Q : VK) : Prop := match o with
  | none => ∀ H', Ex H H' → Q .non H'
  | some ns => ∀ (p : Addr) (H' : Hp), H p = none → Ex H H' → H' p = some (.tup (ns.map V.int)) → Q (.ref p) H'
def spNsA (K : PySem.W.Frag) : Sp := fun vs H Q _ => ∃ (a : Addr) (ws : List Str), vs = [.ref a] ∧ SqL K H a (ws.map V.str) ∧ ws.length ≤ 40000 ∧ (∀ w ∈ ws, Asc w) ∧ RetNs (nums ws) H Q
/-- a word read as a thing of this letter -/
noncomputable def thOf (l x : Str) : Option V := if l = "n" then (numOf x).map V.int else if x = "" then none else some (.str (if l = "s" ∧ x = "-" then "" else x))
def spThA : Sp := fun vs H Q _ => ∃ l x : Str, vs = [.str l, .str x] ∧ Asc x ∧ RetV ((thOf l x).getD .non) H Q
section
variable {P : Program} {w : World} {K : PySem.W.Frag} {mg : Str → Option Value} {base : Heap} {f : Addr} {fd : FuncData}
abbrev sReadNs : Stmt := top 11
theorem scReadNs : FnScope ["words", "word"] ["words"] (defScope sReadNs) := ⟨rfl, rfl, rfl, by decide +kernel, rfl, by decide +kernel, by decide +kernel⟩
theorem ok_nsA (F : FnP K "read_numbers" sReadNs f fd) (O_is_number : Own P w K mg base 1 "is_number" ["word"] spNumA) (g_int : mg "int" = none) (g_all : mg "all" = none) (g_tuple : mg "tuple" = none) : FnOk P w K mg base CX0 2 f fd ["words"] (spNsA K) := by
  have nd := scReadNs.nd
  refine F.ok scReadNs (fun vs H Q E h => ?_) (fun cdv A outer s H vs Q E hr h => ⟨_, PSs.nox (pss_cons (ps_if (pt_not (pt_val (pe_callB (r := rAll K) (cr_all rfl) (by rfl) g_all (by decide +kernel) (pa_cons (pe_lc (own := [("word", 1)]) rfl nd (pi_list (pv 0)) (blkOk_by (N := ["words", "word"]) (sc := defScope (Hs.top 11)) (by decide +kernel)) (fun _ _ _ _ _ => (pg_name (i := 1) nd rfl (Or.inl rfl))) (fun _ _ _ _ _ => pts_nil) (fun _ _ _ _ _ => (Hs.pe_own O_is_number hr (by first | decide | omega) (by rfl) (pa_cons (pv 1) pa_nil)))) pa_nil)))) (pss_one (ps_ret pe_non)) pss_nil)
  (pss_one (ps_ret (pe_callTy call_tuple_of (by rfl) g_tuple (by decide +kernel) (pa_cons (pe_lc (own := [("word", 1)]) rfl nd (pi_list (pv 0)) (blkOk_by (N := ["words", "word"]) (sc := defScope (Hs.top 11)) (by decide +kernel)) (fun _ _ _ _ _ => (pg_name (i := 1) nd rfl (Or.inl rfl))) (fun _ _ _ _ _ => pts_nil) (fun _ _ _ _ _ => (pe_callTy call_int_str (by rfl) g_int (by decide +kernel) (pa_cons (pv 1) pa_nil)))) pa_nil))))), ?_⟩)
  · obtain ⟨a, ws, rfl, _⟩ := h
    rfl
  · obtain ⟨a, ws, rfl, hx, hl, hn, k⟩ := h
    have lz : (ws.map V.str).length = ws.length := List.length_map _
    have tst : EvT (tNot (tB (tCB (rAll K) (tCons (tLc (iList K (tVar 0)) (gName 1) tYes (tCall spNumA [] E0 (tCons (tVar 1) tNil)) [1]) tNil)))) (L2.start (["words", "word"] : List Str) [V.ref a]) H (!(nums ws).isSome) := fun H1 e1 Q' q' => by
      dsimp only [tNot, tB, tCB, tCons]
      refine (el_lcLs (K := K) (j := 1) (vs := [1]) (σ := L2.start (["words", "word"] : List Str) [V.ref a]) (fun i => V.bl (numOf (ws.getD i "")).isSome) (ev_var rfl) (ex_l e1 hx) (by omega) (fun _ => rfl) (fun i x H2 e2 hi => ?_)) H1 (Ex.refl _) _ fun D H2 nD e2 hD => ?_
      · obtain ⟨w, hwi, rfl⟩ := str_at hi
        have eg : ws.getD i "" = w := by rw [List.getD_eq_getElem?_getD, hwi] <;> rfl
        rw [eg]
        exact ev_call (ea_cons (ev_var rfl) ea_nil) fun H3 e3 Q2 q2 E2 => ⟨w, rfl, hn w (List.mem_of_getElem? hwi), q2⟩
      · rw [lz, given_mapA (g := fun w : Str => V.bl (numOf w).isSome) (d := ("" : Str))] at hD
        have em : (ws.map fun w => V.bl (numOf w).isSome) = (ws.map fun w => (numOf w).isSome).map V.bl := by
          rw [List.map_map]
          rfl
        rw [em] at hD
        refine ⟨D, ws.map fun w => (numOf w).isSome, rfl, sq_of hD, (nums ws).isSome, ?_, q' H2 e2⟩
        rw [nums_all, List.all_map]
        rfl
    cases hns : nums ws with
    | none =>
      rw [hns] at k tst
      refine q_when (b := true) tst (fun _ H1 e1 => ?_) (fun ht => Bool.noConfusion ht)
      exact s_ret ev_c fun H2 e2 => k H2 (e1.trans e2)
    | some ns =>
      rw [hns] at k tst
      obtain ⟨rfl, hb⟩ := nums_some hns
      refine q_when (b := false) tst (fun ht => Bool.noConfusion ht) (fun _ H1 e1 => ?_)
      dsimp only [tRet, tCB, tCons]
      refine (el_lcLs (K := K) (j := 1) (vs := [1]) (σ := L2.start (["words", "word"] : List Str) [V.ref a]) (fun i => V.int (ns.getD i 0)) (ev_var rfl) (ex_l e1 hx) (by omega) (fun _ => rfl) (fun i x H2 e2 hi => ?_)) H1 (Ex.refl _) _ fun D H2 nD e2 hD => ?_
      · obtain ⟨w, hwi, rfl⟩ := str_at hi
        rw [List.getElem?_map] at hwi
        obtain ⟨n, hni, rfl⟩ := Option.map_eq_some_iff.mp hwi
        have eg : ns.getD i 0 = n := by rw [List.getD_eq_getElem?_getD, hni] <;> rfl
        have hbn := hb n (List.mem_of_getElem? hni)
        have hl2 := numS_len hbn
        rw [eg]
        exact fun H3 e3 Q2 q2 => ⟨_, rfl, _, n, rfl, numS_reads hbn, by omega, q2 H3 (Ex.refl _)⟩
      · rw [lz, List.length_map, given_mapA (g := V.int)] at hD
        exact ⟨D, ns.map V.int, rfl, .inl ⟨sq_of hD, fun l hl2 => k l _ (fresh_back (e1.trans e2) hl2) ((e1.trans e2).trans (Ex.new hl2)) upd_same⟩⟩
abbrev sReadTh : Stmt := top 13
theorem scReadTh : FnScope ["letter", "word"] ["letter", "word"] (defScope sReadTh) := ⟨rfl, rfl, rfl, by decide +kernel, rfl, by decide +kernel, by decide +kernel⟩
theorem ok_thA (F : FnP K "read_thing" sReadTh f fd) (O_is_number : Own P w K mg base 1 "is_number" ["word"] spNumA) (g_int : mg "int" = none) : FnOk P w K mg base CX0 2 f fd ["letter", "word"] spThA := by
  have nd := scReadTh.nd
  refine F.ok scReadTh (fun vs H Q E h => ?_) (fun cdv A outer s H vs Q E hr h => ⟨_, PSs.nox (pss_cons (ps_if (pt_cmpR op_eq (pv 0) pe_str (nomark _)) (pss_one (ps_ret (pe_ifExp (pt_val (Hs.pe_own O_is_number hr (by first | decide | omega) (by rfl) (pa_cons (pv 1) pa_nil))) (pe_callTy call_int_str (by rfl) g_int (by decide +kernel) (pa_cons (pv 1) pa_nil)) pe_non))) pss_nil)
  (pss_cons (ps_if (pt_cmpR op_eq (pv 1) pe_str (nomark _)) (pss_one (ps_ret pe_non)) pss_nil)
  (pss_one (ps_ret (pe_ifExp (PW.pt (pw_and (pt_cmpR op_eq (pv 0) pe_str (nomark _)) (pw_and1 (pt_cmpR op_eq (pv 1) pe_str (nomark _))))) pe_str (pv 1)))))), ?_⟩)
  · obtain ⟨l, x, rfl, _⟩ := h
    rfl
  · obtain ⟨l, x, rfl, ha, k⟩ := h
    by_cases n1 : l = "n"
    · have e : thOf l x = (numOf x).map V.int := if_pos n1
      rw [e] at k
      refine q_when (b := true) (et_is (et_test (ev_op (ev_var (v := .str l) rfl) ev_c (rv_eq rfl))) (by simp [n1])) (fun _ H1 e1 => ?_) (fun ht => Bool.noConfusion ht)
      refine ⟨_, rfl, x, rfl, ha, fun H2 e2 => ⟨_, rfl, ?_⟩⟩
      cases hn : numOf x with
      | none =>
        rw [hn] at k
        exact ite_F rfl (k H2 (e1.trans e2))
      | some n =>
        rw [hn] at k
        obtain ⟨hb, rfl⟩ := numOf_some hn
        have z := numS_len hb
        exact ite_T rfl ⟨_, rfl, _, n, rfl, numS_reads hb, by omega, k H2 (e1.trans e2)⟩
    · have e : thOf l x = if x = "" then none else some (.str (if l = "s" ∧ x = "-" then "" else x)) := if_neg n1
      rw [e] at k
      refine q_when (b := false) (et_is (et_test (ev_op (ev_var rfl) ev_c (rv_eq rfl))) (by simp [n1])) (fun ht => Bool.noConfusion ht) (fun _ H1 e1 => ?_)
      by_cases n2 : x = ""
      · rw [if_pos n2] at k
        refine q_when (b := true) (et_is (et_test (ev_op (ev_var (v := .str x) rfl) ev_c (rv_eq rfl))) (by simp [n2])) (fun _ H2 e2 => ?_) (fun ht => Bool.noConfusion ht)
        exact s_ret ev_c fun H3 e3 => k H3 ((e1.trans e2).trans e3)
      · rw [if_neg n2] at k
        refine q_when (b := false) (et_is (et_test (ev_op (ev_var rfl) ev_c (rv_eq rfl))) (by simp [n2])) (fun ht => Bool.noConfusion ht) (fun _ H2 e2 => ?_)
        have e := e1.trans e2
        have tst : EvT (tAnd (tTest (tOp rEq (tVar 0) (tC (.str "s")))) (tTest (tOp rEq (tVar 1) (tC (.str "-"))))) (L2.start ["letter", "word"] [V.str l, V.str x]) H2 (decide (l = "s") && decide (x = "-")) :=
          et_and (et_is (et_test (ev_op (ev_var rfl) ev_c (rv_eq rfl))) (by simp)) fun _ => et_is (et_test (ev_op (ev_var rfl) ev_c (rv_eq rfl))) (by simp)
        refine tst H2 (Ex.refl _) _ fun H3 e3 => ?_
        have kk := k H3 (e.trans e3)
        by_cases h : l = "s" ∧ x = "-"
        · rw [if_pos h] at kk
          exact ite_T (by rw [decide_eq_true h.1, decide_eq_true h.2] <;> rfl) kk
        · rw [if_neg h] at kk
          refine ite_F ?_ ⟨_, rfl, kk⟩
          rw [← Bool.decide_and]
          exact decide_eq_false h
end
end Hs
namespace Hs
open PySem PySem.Spec PyProof.Rows L2 Evl
/-- tuples and what is frozen stay -/
structure Kp (H H' : Hp) : Prop where
  t : ∀ a xs, H a = some (.tup xs) → H' a = some (.tup xs)
  f : ∀ a od o, H a = some (.frz od o) → H' a = some (.frz od o)
theorem Kp.of {H H' : Hp} (e : Ex H H') : Kp H H' := ⟨fun _ _ h => e _ _ h, fun _ _ _ h => e _ _ h⟩
theorem Kp.but {H H' : Hp} {b : Addr} {xs : List V} (hb : H b = some (.lst xs)) (e : But H H' b) : Kp H H' := ⟨fun _ _ h => e _ _ h (ne_of h hb (by intro z; cases z)), fun _ _ _ h => e _ _ h (ne_of h hb (by intro z; cases z))⟩
theorem Kp.upd {H : Hp} {b : Addr} {xs : List V} {o : HO} (hb : H b = some (.lst xs)) : Kp H (L2.upd H b o) := Kp.but hb (But.upd But.refl)
theorem Kp.sqt {K : PySem.W.Frag} {H H' : Hp} {a : Addr} {xs : List V} (e : Kp H H') (h : SqT K H a xs) : SqT K H' a xs := by
  rcases h with (h | ⟨od, h⟩) | h
  · exact .inl (.inl (e.t _ _ h))
  · exact .inl (.inr ⟨od, e.f _ _ _ h⟩)
  · exact .inr h
theorem Kp.tup {H H' : Hp} {a : Addr} {xs : List V} (e : Kp H H') (h : H a = some (.tup xs)) : H' a = some (.tup xs) := e.t _ _ h
end Hs
namespace Hs
open PySem PySem.Spec PyProof.Rows L2 Evl
/-! ### x not in (a tuple of data) -/
def rNotInT (K : PySem.W.Frag) : R2 := fun x y H Q => ∃ d ds, Dp K H x d ∧ Dp K H y (.tuple ds) ∧ SeqAt.shaped d = true ∧ SeqAt.shaped (.tuple ds) = true ∧ Q (.bl (!ds.any fun z => PyData.eqv z d)) H
theorem op_notInT {X : Cx} (hu : X.A.units + 65 < cLine) : OpR X (compareOp .NotIn) (rNotInT X.K) := by
  intro pins s σ H x y v u Q I rx ry h
  obtain ⟨d, ds, hd, he, sd, se, q⟩ := h
  obtain ⟨as, r1⟩ := Dp.reads I d x v hd rx
  obtain ⟨bs, r2⟩ := Dp.reads I (.tuple ds) y u he ry
  exact SeqAt.notIn_tuple_reads r2 r1 (SeqAt.canLay_of_shaped se) (SeqAt.canLay_of_shaped sd) (room_in_shaped sd hu) ⟨.bl _, H, I, rfl, q⟩
theorem un65 {k : Nat} {A : Around} (r : Room k A) : A.units + 65 < cLine := by
  have := r.un
  omega
theorem dpAll_strs {K : PySem.W.Frag} {H : Hp} : ∀ zs : List Str, DpAll K H (zs.map V.str) (zs.map PyData.str)
  | [] => .nil
  | z :: zs => .cons (.str z) (dpAll_strs zs)
theorem cutV_nat (xs : List V) (a b : Nat) : cutV xs (some (a : Int)) (some (b : Int)) = (xs.drop a).take (b - a) := by
  unfold cutV
  rw [HT.sIx_nat, HT.sIx_nat]
  by_cases h : a ≤ xs.length
  · rw [Nat.min_eq_left h]
    by_cases h2 : b ≤ xs.length
    · rw [Nat.min_eq_left h2]
    · rw [Nat.min_eq_right (by omega : xs.length ≤ b), List.take_of_length_le (by rw [List.length_drop]; omega), List.take_of_length_le (by rw [List.length_drop]; omega)]
  · rw [List.drop_eq_nil_of_le (by omega : xs.length ≤ min a xs.length), List.drop_eq_nil_of_le (by omega : xs.length ≤ a), List.take_nil, List.take_nil]
theorem ev_lenT {K : PySem.W.Frag} {σ : L2.St} {H : Hp} {ta : TE} {p : Addr} {xs : List V} (ha : Ev ta σ H (.ref p)) (h : SqT K H p xs) : Ev (tCB (rLenS K) (tCons ta tNil)) σ H (.int (xs.length : Int)) := fun H1 e Q q =>
  ha H1 e _ fun H2 e2 => ⟨p, xs, rfl, .inr (ex_t (e.trans e2) h), q H2 e2⟩
theorem et_nonR {σ : L2.St} {H : Hp} {i : Nat} {p : Addr} (h : σ[i]? = some (some (.ref p))) : EvT (tTest (tOp (fun x y H Q => y = V.non ∧ Q (V.bl (decide (x = V.non))) H) (tVar i) (tC V.non))) σ H false :=
  et_is (et_test (ev_op (ev_var h) ev_c fun H6 _ _ q6 => ⟨rfl, q6 H6 (Ex.refl _)⟩)) (decide_eq_false fun z => by cases z)
theorem q_forRC {ta : TA} {tb tz : TS} {D : Ends} {σ : L2.St} {H : Hp} {j : Nat} {lo hi c : Int} {n : Nat} (h : EvA ta σ H [.int lo, .int hi, .int c]) (hr : RgC lo hi c n) (Pv : Nat → L2.St → Hp → Prop) (h0 : ∀ H1, Ex H H1 → Pv 0 σ H1)
    (hs : ∀ i σ' H', i < n → Pv i σ' H' → tb { D with nx := Pv (i + 1), ct := Pv (i + 1), bk := tz D } (σ'.set j (some (.int (lo + (i : Nat) * c)))) H') (hd : ∀ σ' H', Pv n σ' H' → tz D σ' H') : tSeq (tFor (iRng3 ta) (gName j) tb) tz D σ H :=
  h H (Ex.refl _) _ fun H2 e2 => ⟨lo, hi, c, n, rfl, hr, for_rangeC (D := { D with nx := tz D }) Pv (h0 H2 e2) (fun i σ' H' hi p => hs i σ' H' hi p) hd⟩
def RowsT (K : PySem.W.Frag) (H : Hp) (p : Addr) (rows : List (List Int)) : Prop := ∃ ps : List Addr, SqT K H p (ps.map V.ref) ∧ ps.length = rows.length ∧ ∀ (i : Nat) (p : Addr) (r : List Int), ps[i]? = some p → rows[i]? = some r → SqT K H p (r.map V.int)
end Hs
namespace Hs
open PySem PySem.Spec PyProof.Rows L2 Evl
/-! ### read_choices: any words -/
noncomputable def chk : Nat → List Str → Option (List (List Int))
  | 0, _ => none
  | f + 1, ws => if (ws.drop 5).take 1 = [] ∨ (ws.drop 5).take 1 = [("/" : Str)] then
      match nums (ws.take 5) with
      | some c => if c.length = 5 then (if 6 ≤ ws.length then (chk f (ws.drop 6)).map (c :: ·) else some [c]) else none
      | none => none
    else none
noncomputable def chOf (ws : List Str) : Option (List (List Int)) := chk (ws.length / 6 + 1) ws
def spChA (K : PySem.W.Frag) : Sp := fun vs H Q _ => ∃ (a : Addr) (ws : List Str), vs = [.ref a] ∧ SqL K H a (ws.map V.str) ∧ ws.length ≤ 40000 ∧ (∀ w ∈ ws, Asc w) ∧ (chOf ws = none → ∀ H', Ex H H' → Q .non H') ∧
  ∀ rows, chOf ws = some rows → ∀ (p : Addr) (H' : Hp), H p = none → Ex H H' → RowsT K H' p rows → Q (.ref p) H'
theorem rgA {k n : Nat} {m : Int} (hm : m = (k : Int) + 1) (h : n = k / 6 + 1) (hk : k ≤ 100000) : RgC 0 m 6 n := by
  have e : Builtin.Range.rangeSize 0 m 6 = n := by
    unfold Builtin.Range.rangeSize
    rw [if_pos (by decide), if_pos (by omega)]
    omega
  refine ⟨by decide, by decide, ?_, e⟩
  unfold Builtin.Range.small
  rw [e]
  simp only [Builtin.Range.rangeFitsLong, Bool.and_eq_true, Bool.or_eq_true, decide_eq_true_eq, beq_iff_eq, show (6 : Int) > 0 by decide, if_true]
  first | (split <;> omega) | omega | (refine ⟨by omega, ?_⟩ <;> omega)
theorem eqv_words (x : Str) : ([.list [], .list [.str "/"]] : List PyData).any (fun z => PyData.eqv z (.list [.str x])) = decide (x = "/") := by
  have e1 : PyData.eqv (.list []) (.list [.str x]) = false := rfl
  have e2 : PyData.eqv (.list [.str "/"]) (.list [.str x]) = ((("/" : Str) == x) && true) := rfl
  rw [List.any_cons, List.any_cons, List.any_nil, e1, e2, Bool.and_true, Bool.false_or, Bool.or_false]
  by_cases h : x = "/"
  · rw [h]
    decide +kernel
  · rw [decide_eq_false h]
    exact beq_eq_false_iff_ne.mpr (Ne.symm h)
theorem sep_test (zs : List Str) (h : zs.length ≤ 1) : ([.list [], .list [.str "/"]] : List PyData).any (fun z => PyData.eqv z (.list (zs.map PyData.str))) = decide (zs = [] ∨ zs = [("/" : Str)]) := by
  match zs, h with
  | [], _ =>
    rw [decide_eq_true (.inl rfl)]
    decide +kernel
  | [x], _ =>
    have e := eqv_words x
    show ([.list [], .list [.str "/"]] : List PyData).any (fun z => PyData.eqv z (.list [.str x])) = _
    rw [e]
    by_cases h : x = "/"
    · rw [decide_eq_true h, decide_eq_true (.inr (by rw [h]))]
    · rw [decide_eq_false h, decide_eq_false (fun z => by
        rcases z with z | z
        · cases z
        · exact h (List.head_eq_of_cons_eq z))]
theorem asc_words {zs : List Str} (h1 : zs.length ≤ 1) (h : ∀ w ∈ zs, Asc w) : SeqAt.shaped (.list (zs.map .str)) = true := by
  match zs, h1 with
  | [], _ => decide +kernel
  | [x], _ =>
    have hx : PyData.strOk x = true := by
      unfold PyData.strOk
      rw [Array.all_eq_true_iff_forall_mem]
      intro c hc
      have z := (h x (by simp)).1 c (Array.mem_toList_iff.mpr hc)
      exact decide_eq_true (by omega)
    show (PyData.canLay0 (.list [.str x]) && decide (PyData.depth (.list [.str x]) ≤ 64)) = true
    have e1 : PyData.canLay0 (.list [.str x]) = (PyData.strOk x && true) := rfl
    have e2 : PyData.depth (.list [.str x]) = 1 := rfl
    rw [e1, e2, hx]
    decide
section
variable {P : Program} {w : World} {K : PySem.W.Frag} {mg : Str → Option Value} {base : Heap} {f : Addr} {fd : FuncData}
abbrev sReadCh : Stmt := top 12
theorem scReadCh : FnScope ["words", "choices", "first", "choice"] ["words"] (defScope sReadCh) := ⟨rfl, rfl, rfl, by decide +kernel, rfl, by decide +kernel, by decide +kernel⟩
theorem ok_chA (F : FnP K "read_choices" sReadCh f fd) (O_read_numbers : Own P w K mg base 2 "read_numbers" ["words"] (spNsA K)) (g_len : mg "len" = none) (g_range : mg "range" = none) (g_tuple : mg "tuple" = none) : FnOk P w K mg base CX0 3 f fd ["words"] (spChA K) := by
  have nd := scReadCh.nd
  refine F.ok scReadCh (fun vs H Q E h => ?_) (fun cdv A outer s H vs Q E hr h => ⟨_, PSs.nox (pss_cons (ps_set (i := 1) nd rfl (.inl rfl) (pe_lst pa_nil))
  (pss_cons (ps_for PassesOwn.never rfl (pi_range3 (by rfl) g_range (pa_cons pe_int (pa_cons (pe_op op_add (pe_callB (r := Evl.rLenS K) call_len_seq (by rfl) g_len PySem.boot_len (pa_cons (pv 0) pa_nil)) pe_int) (pa_cons pe_int pa_nil)))) (pg_name (i := 2) nd rfl (.inl rfl)) (pss_cons (ps_if (pt_cmpR (Hs.op_notInT (Hs.un65 hr)) (pe_slice sl_list (pv 0) (po_some (pe_op op_add (pv 2) pe_int)) (po_some (pe_op op_add (pv 2) pe_int))) (pe_tup (pa_cons (pe_lst pa_nil) (pa_cons (pe_lst (pa_cons pe_str pa_nil)) pa_nil))) (by rfl)) (pss_one (ps_ret pe_non)) pss_nil)
  (pss_cons (ps_set (i := 3) nd rfl (.inl rfl) (Hs.pe_own O_read_numbers hr (by first | decide | omega) (by rfl) (pa_cons (pe_slice sl_list (pv 0) (po_some (pv 2)) (po_some (pe_op op_add (pv 2) pe_int))) pa_nil)))
  (pss_cons (ps_if (PW.pt (pw_or (pt_cmpR op_isN (pv 3) pe_non (nomark _)) (pw_or1 (pt_cmpR op_ne (pe_callB (r := Evl.rLenS K) call_len_seq (by rfl) g_len PySem.boot_len (pa_cons (pv 3) pa_nil)) pe_int (nomark _))))) (pss_one (ps_ret pe_non)) pss_nil)
  (pss_one (ps_expr (pe_bm PySem.F.plainAttrs_list PySem.F.slot_list_append PySem.F.type_list_append mt_append (pv 1) (pa_cons (pv 3) pa_nil))))))))
  (pss_one (ps_ret (pe_callTy call_tuple_of (by rfl) g_tuple (by decide +kernel) (pa_cons (pv 1) pa_nil)))))), ?_⟩)
  · obtain ⟨a, rows, rfl, _⟩ := h
    rfl
  · obtain ⟨a, ws, rfl, hx, hl, ha, k0, k1⟩ := h
    have lz : (ws.map V.str).length = ws.length := List.length_map _
    refine q_asgL (el_lst ea_nil (by simp)) fun D H1 nD e1 hD => ?_
    refine q_forRC (n := ws.length / 6 + 1) (ea_cons ev_c (ea_cons (ev_op (ev_len (ev_var rfl) (ex_l e1 hx)) ev_c rv_I0) (ea_cons ev_c ea_nil))) (rgA (k := ws.length) (by rw [lz]) rfl (by omega)) (fun i σ' H' => Ex H H' ∧ ∃ (v2 v3 : Option V) (ps : List Addr) (cs : List (List Int)), σ' = [some (.ref a), some (.ref D), v2, v3] ∧ H' D = some (.lst (ps.map V.ref)) ∧ ps.length = cs.length ∧ cs.length = i ∧
      (i < ws.length / 6 + 1 → chOf ws = (chk (ws.length / 6 + 1 - i) (ws.drop (6 * i))).map (cs ++ ·)) ∧ (i = ws.length / 6 + 1 → chOf ws = some cs) ∧ ∀ (j : Nat) (p : Addr) (r : List Int), ps[j]? = some p → cs[j]? = some r → SqT K H' p (r.map V.int)) ?_ ?_ ?_
    · intro H2 e2
      refine ⟨e1.trans e2, none, none, [], [], rfl, e2 _ _ hD, rfl, rfl, fun _ => ?_, fun h => by omega, fun _ _ _ h _ => by cases h⟩
      show chk (ws.length / 6 + 1) ws = (chk (ws.length / 6 + 1 - 0) (ws.drop 0)).map ([] ++ ·)
      rw [Nat.sub_zero, List.drop_zero]
      cases chk (ws.length / 6 + 1) ws <;> rfl
    · rintro i σ' H' hi ⟨e, v2, v3, ps, cs, rfl, hDl, hpl, hci, hgo, _, hps⟩
      have hgo := hgo hi
      obtain ⟨m, hm⟩ : ∃ m, ws.length / 6 + 1 - i = m + 1 := ⟨ws.length / 6 - i, by omega⟩
      rw [hm] at hgo
      unfold chk at hgo
      have q0 : (0 + (i : Int) * 6) = ((6 * i : Nat) : Int) := by omega
      rw [q0]
      have c1 : cutV (ws.map V.str) (some ((6 * i : Nat) : Int)) (some ((6 * i + 5 : Nat) : Int)) = ((ws.drop (6 * i)).take 5).map V.str := by
        rw [cutV_nat, Nat.add_sub_cancel_left, ← List.map_drop, ← List.map_take]
      have c2 : cutV (ws.map V.str) (some ((6 * i + 5 : Nat) : Int)) (some ((6 * i + 6 : Nat) : Int)) = (((ws.drop (6 * i)).drop 5).take 1).map V.str := by
        rw [cutV_nat, show 6 * i + 6 - (6 * i + 5) = 1 by omega, ← List.map_drop, ← List.map_take, List.drop_drop]
      have sl2 : ∀ {H3 : Hp}, Ex H' H3 → EvL (tSl (rSlL K) (tVar 0) (tPart (tOp (rI0 fun i j => V.int (i + j)) (tVar 2) (tC (V.int 5)))) (tPart (tOp (rI0 fun i j => V.int (i + j)) (tVar 2) (tC (V.int 6))))) [some (.ref a), some (.ref D), some (.int ((6 * i : Nat) : Int)), v3] H3 ((((ws.drop (6 * i)).drop 5).take 1).map V.str) := fun e3 => by
        have z := el_sl (K := K) (σ := [some (.ref a), some (.ref D), some (.int ((6 * i : Nat) : Int)), v3]) (ev_var (i := 0) rfl) (eo_some (i := ((6 * i : Nat) : Int) + 5) (ev_op (ta := tVar 2) (tb := tC (.int 5)) (r := rI0 fun i j => V.int (i + j)) (ev_var rfl) ev_c rv_I0)) (eo_some (i := ((6 * i : Nat) : Int) + 6) (ev_op (ta := tVar 2) (tb := tC (.int 6)) (r := rI0 fun i j => V.int (i + j)) (ev_var rfl) ev_c rv_I0)) (ex_l (e.trans e3) hx)
        rw [show ((6 * i : Nat) : Int) + 5 = ((6 * i + 5 : Nat) : Int) by omega, show ((6 * i : Nat) : Int) + 6 = ((6 * i + 6 : Nat) : Int) by omega, c2] at z
        exact z
      have sl1 : ∀ {H3 : Hp}, Ex H' H3 → EvL (tSl (rSlL K) (tVar 0) (tPart (tVar 2)) (tPart (tOp (rI0 fun i j => V.int (i + j)) (tVar 2) (tC (V.int 5))))) [some (.ref a), some (.ref D), some (.int ((6 * i : Nat) : Int)), v3] H3 (((ws.drop (6 * i)).take 5).map V.str) := fun e3 => by
        have z := el_sl (K := K) (σ := [some (.ref a), some (.ref D), some (.int ((6 * i : Nat) : Int)), v3]) (ev_var (i := 0) rfl) (eo_some (ev_var (i := 2) rfl)) (eo_some (i := ((6 * i : Nat) : Int) + 5) (ev_op (ta := tVar 2) (tb := tC (.int 5)) (r := rI0 fun i j => V.int (i + j)) (ev_var rfl) ev_c rv_I0)) (ex_l (e.trans e3) hx)
        rw [show ((6 * i : Nat) : Int) + 5 = ((6 * i + 5 : Nat) : Int) by omega, c1] at z
        exact z
      have lzs : (((ws.drop (6 * i)).drop 5).take 1).length ≤ 1 := by rw [List.length_take]; omega
      have tst : EvT (tTest (tOp (rNotInT K) (tSl (rSlL K) (tVar 0) (tPart (tOp (rI0 fun i j => V.int (i + j)) (tVar 2) (tC (V.int 5)))) (tPart (tOp (rI0 fun i j => V.int (i + j)) (tVar 2) (tC (V.int 6))))) (tTup (tCons (tLst tNil) (tCons (tLst (tCons (tC (V.str "/")) tNil)) tNil))))) [some (.ref a), some (.ref D), some (.int ((6 * i : Nat) : Int)), v3] H' (!decide (((ws.drop (6 * i)).drop 5).take 1 = [] ∨ ((ws.drop (6 * i)).drop 5).take 1 = [("/" : Str)])) := et_test fun H3 e3 Q' q' => by
        refine sl2 e3 H3 (Ex.refl _) _ fun p1 H4 n4 e4 h4 => ?_
        refine ⟨sz_of (by simp), fun p2 n2 => ⟨sz_of (by simp), fun p3 n3 => ⟨sz_of (by simp), fun p4 n5 => ?_⟩⟩⟩
        have x2 := Ex.new (o := .lst []) n2
        have x3 := Ex.new (o := .lst [V.str "/"]) n3
        have x4 := Ex.new (o := .tup [V.ref p2, V.ref p3]) n5
        refine ⟨.list ((((ws.drop (6 * i)).drop 5).take 1).map PyData.str), [.list [], .list [.str "/"]], .lst (sq_of (((x2.trans x3).trans x4) _ _ h4)) (dpAll_strs _), .tup (st_of upd_same) (.cons (.lst (sq_of ((x3.trans x4) _ _ upd_same)) .nil) (.cons (.lst (sq_of (x4 _ _ upd_same)) (.cons (.str _) .nil)) .nil)), ?_, by decide +kernel, ?_⟩
        · exact asc_words lzs fun w hw => ha w (List.mem_of_mem_drop (List.mem_of_mem_drop (List.mem_of_mem_take hw)))
        · rw [sep_test _ lzs]
          exact q' _ ((e4.trans x2).trans (x3.trans x4))
      by_cases hsep : ((ws.drop (6 * i)).drop 5).take 1 = [] ∨ ((ws.drop (6 * i)).drop 5).take 1 = [("/" : Str)]
      · rw [if_pos hsep] at hgo
        rw [decide_eq_true hsep] at tst
        refine q_when (b := false) tst (fun ht => Bool.noConfusion ht) (fun _ H3 e3 => ?_)
        refine sl1 e3 H3 (Ex.refl _) _ fun p1 H4 n4 e4 h4 => ?_
        refine ⟨p1, (ws.drop (6 * i)).take 5, rfl, sq_of h4, by rw [List.length_take]; omega, fun w hw => ha w (List.mem_of_mem_drop (List.mem_of_mem_take hw)), ?_⟩
        cases hc : nums ((ws.drop (6 * i)).take 5) with
        | none =>
          rw [hc] at hgo
          intro H5 e5
          dsimp only [gName, List.set]
          refine q_when (b := true) (et_is (et_or (a := true) (b := true) (et_is (et_test (ev_op (ev_var (v := .non) rfl) ev_c fun H6 _ _ q6 => ⟨rfl, q6 H6 (Ex.refl _)⟩)) rfl) fun h => Bool.noConfusion h) rfl) (fun _ H6 e6 => ?_) (fun ht => Bool.noConfusion ht)
          exact s_ret ev_c fun H7 e7 => k0 hgo H7 (((((e.trans e3).trans e4).trans e5).trans e6).trans e7)
        | some c =>
          rw [hc] at hgo
          intro p H5 np e5 h5'
          have e35 := (e3.trans e4).trans e5
          dsimp only [gName, List.set]
          by_cases h5 : c.length = 5
          · have hgo : chOf ws = (if 6 ≤ (ws.drop (6 * i)).length then (chk m ((ws.drop (6 * i)).drop 6)).map (c :: ·) else some [c]).map (cs ++ ·) := by
              rw [hgo]
              show Option.map (cs ++ ·) (if c.length = 5 then _ else none) = _
              rw [if_pos h5]
            have ez : ((c.map V.int).length : Int) = 5 := by rw [List.length_map, h5] <;> rfl
            refine q_when (b := false) (et_is (et_or (a := false) (b := false) (et_nonR rfl) fun _ => et_is (et_test (ev_op (ev_lenT (K := K) (ev_var (v := .ref p) rfl) (st_of h5')) ev_c (rv_ne rfl))) (by rw [ez] <;> rfl)) rfl) (fun ht => Bool.noConfusion ht) (fun _ H6 e6 => ?_)
            have eD := e35.trans e6
            refine s_app (eD _ _ hDl) (ev_var rfl) (ev_var rfl) (by rw [List.length_map]; omega) fun H7 e7 => ?_
            have e07 := (e.trans eD).trans e7
            have kp : Kp H' (upd H7 D (.lst (ps.map V.ref ++ [.ref p]))) := ⟨fun _ _ h => (Kp.upd ((eD.trans e7) _ _ hDl)).t _ _ ((eD.trans e7) _ _ h), fun _ _ _ h => (Kp.upd ((eD.trans e7) _ _ hDl)).f _ _ _ ((eD.trans e7) _ _ h)⟩
            have kp5 : Kp H5 (upd H7 D (.lst (ps.map V.ref ++ [.ref p]))) := ⟨fun _ _ h => (Kp.upd ((eD.trans e7) _ _ hDl)).t _ _ ((e6.trans e7) _ _ h), fun _ _ _ h => (Kp.upd ((eD.trans e7) _ _ hDl)).f _ _ _ ((e6.trans e7) _ _ h)⟩
            have nD' : H D = none := nD
            refine ⟨Ex.mut e07 nD', _, _, ps ++ [p], cs ++ [c], rfl, by rw [List.map_append] <;> exact upd_same, by rw [List.length_append, List.length_append, hpl] <;> rfl, by rw [List.length_append, hci] <;> rfl, fun hlt => ?_, fun heq => ?_, fun j p' r' hj hr' => ?_⟩
            · rw [if_pos (by rw [List.length_drop]; omega), Option.map_map] at hgo
              rw [hgo, List.drop_drop, show 6 * i + 6 = 6 * (i + 1) by omega, show ws.length / 6 + 1 - (i + 1) = m by omega]
              congr 1
              funext z
              simp
            · rw [if_neg (by rw [List.length_drop]; omega)] at hgo
              exact hgo
            · by_cases hji : j < ps.length
              · rw [List.getElem?_append_left hji] at hj
                rw [List.getElem?_append_left (by omega)] at hr'
                exact kp.sqt (hps j p' r' hj hr')
              · rw [List.getElem?_append_right (Nat.not_lt.mp hji)] at hj
                rw [List.getElem?_append_right (by omega), ← hpl] at hr'
                have hj0 : j - ps.length = 0 := by
                  have := (List.getElem?_eq_some_iff.mp hj).1
                  simp at this
                  omega
                rw [hj0] at hj hr'
                cases hj
                cases hr'
                exact kp5.sqt (st_of h5')
          · have hgo : chOf ws = none := by
              rw [hgo]
              show Option.map (cs ++ ·) (if c.length = 5 then _ else none) = _
              rw [if_neg h5]
              rfl
            refine q_when (b := true) (et_is (et_or (a := false) (b := true) (et_nonR rfl) fun _ => et_is (et_test (ev_op (ev_lenT (K := K) (ev_var (v := .ref p) rfl) (st_of h5')) ev_c (rv_ne rfl))) (by rw [List.length_map]; simp; omega)) rfl) (fun _ H6 e6 => ?_) (fun ht => Bool.noConfusion ht)
            exact s_ret ev_c fun H7 e7 => k0 hgo H7 (((e.trans e35).trans e6).trans e7)
      · rw [if_neg hsep] at hgo
        rw [decide_eq_false hsep] at tst
        refine q_when (b := true) tst (fun _ H3 e3 => ?_) (fun ht => Bool.noConfusion ht)
        exact s_ret ev_c fun H4 e4 => k0 hgo H4 ((e.trans e3).trans e4)
    · rintro σ' H' ⟨e, v2, v3, ps, cs, rfl, hDl, hpl, hci, _, hend, hps⟩
      refine ⟨_, rfl, D, ps.map V.ref, rfl, .inl ⟨sq_of hDl, fun l hl2 => ?_⟩⟩
      have el := Ex.new (o := .tup (ps.map V.ref)) hl2
      exact k1 cs (hend rfl) l _ (fresh_back e hl2) (e.trans el) ⟨ps, st_of upd_same, hpl, fun j p r h1 h2 => ex_t el (hps j p r h1 h2)⟩
end
end Hs
namespace Hs
open PySem PySem.Spec PyProof.Rows L2 Evl
/-! ### deeds and their texts -/
def thS : V → Str
  | .int n => numS n
  | .str x => if x = "" then "-" else x
  | _ => ""
def ThOk (v : V) : Prop := (∃ n : Int, v = .int n ∧ n.natAbs < 10 ^ 9) ∨ ∃ x : Str, v = .str x ∧ x.length ≤ 20 ∧ (∀ c ∈ TL.tl x, c < 128) ∧ 32 ∉ TL.tl x ∧ 10 ∉ TL.tl x
theorem thS_len {v : V} (h : ThOk v) : (thS v).length ≤ 20 := by
  rcases h with ⟨n, rfl, hn⟩ | ⟨x, rfl, hx, _⟩
  · exact Nat.le_trans (numS_len hn) (by decide)
  · show (if x = "" then ("-" : Str) else x).length ≤ 20
    split
    · decide +kernel
    · exact hx
def rowS (r : List Int) : Str := Txt.join " " (r.map numS)
inductive WD
  | plain (w : Str) (xs : List V)
  | unsure (rows : List (List Int))
def WD.text : WD → Str
  | .plain w xs => Txt.join " " ((V.str w :: xs).map thS)
  | .unsure rows => "unsure" ++ " " ++ Txt.join " / " (rows.map rowS)
def DeedV (K : PySem.W.Frag) (H : Hp) (a : Addr) : WD → Prop
  | .plain w xs => SqT K H a (.str w :: xs)
  | .unsure rows => ∃ (c : Addr) (ps : List Addr), SqT K H a [.str "unsure", .ref c] ∧ SqT K H c (ps.map V.ref) ∧ ps.length = rows.length ∧ ∀ (i : Nat) (p : Addr) (r : List Int), ps[i]? = some p → rows[i]? = some r → SqT K H p (r.map V.int)
def WD.ok : WD → Prop
  | .plain w xs => w ≠ "many" ∧ w ≠ "unsure" ∧ (∀ x ∈ V.str w :: xs, ThOk x) ∧ xs.length ≤ 6
  | .unsure rows => rows.length ≤ 8 ∧ ∀ r ∈ rows, r.length = 5 ∧ ∀ n ∈ r, n.natAbs < 10 ^ 9
theorem joinL_len {s : List Nat} {k : Nat} : ∀ ps : List (List Nat), (∀ p ∈ ps, p.length ≤ k) → (TL.joinL s ps).length ≤ ps.length * (k + s.length)
  | [], _ => Nat.zero_le _
  | [p], h => by
    have := h p (List.mem_singleton.mpr rfl)
    show p.length ≤ 1 * (k + s.length)
    omega
  | p :: q :: r, h => by
    have h1 := h p List.mem_cons_self
    have ih := joinL_len (s := s) (q :: r) fun z hz => h z (List.mem_cons_of_mem _ hz)
    show (p ++ (s ++ TL.joinL s (q :: r))).length ≤ (r.length + 1 + 1) * (k + s.length)
    rw [List.length_append, List.length_append, Nat.add_mul (r.length + 1)]
    have e : (q :: r).length = r.length + 1 := rfl
    rw [e] at ih
    omega
theorem join_len {y : Str} {k : Nat} {ps : List Str} (h : ∀ p ∈ ps, p.length ≤ k) : (Txt.join y ps).length ≤ ps.length * (k + y.length) := by
  rw [TL.join_eq, TL.len_tl, TL.tl_join, TL.len_tl y]
  have z := joinL_len (s := TL.tl y) (k := k) (ps.map TL.tl) fun p hp => by
    obtain ⟨x, hx, rfl⟩ := List.mem_map.mp hp
    rw [← TL.len_tl]
    exact h x hx
  rwa [List.length_map] at z
theorem rowS_len {r : List Int} (h5 : r.length = 5) (h : ∀ n ∈ r, n.natAbs < 10 ^ 9) : (rowS r).length ≤ 55 := by
  have h1 : (" " : Str).length = 1 := by decide +kernel
  have z := join_len (y := " ") (k := 10) (ps := r.map numS) fun p hp => by
    obtain ⟨n, hn, rfl⟩ := List.mem_map.mp hp
    exact numS_len (h n hn)
  rw [List.length_map, h5, h1] at z
  exact z
theorem el_lcTu {K : PySem.W.Frag} {σ : L2.St} {H : Hp} {te tl : TE} {a : Addr} {xs : List V} {j : Nat} {vs : List Nat} (v : Nat → V) (h : Ev tl σ H (.ref a)) (hx : SqT K H a xs) (hz : xs.length ≤ 40000) (hw : ∀ x, wipe ((wipe σ vs).set j (some x)) vs = wipe σ vs)
    (he : ∀ (i : Nat) (x : V) H1, Ex H H1 → xs[i]? = some x → Ev te ((wipe σ vs).set j (some x)) H1 (v i)) : EvL (tLc (iTup K tl) (gName j) tYes te vs) σ H (given xs.length (fun _ => true) v) :=
  fun H0 e Q q => h H0 e _ fun H1 e1 => ⟨a, rfl, ⟨xs, ex_t (e.trans e1) hx⟩, fun Dl hD =>
    lc_tup (xs := xs) (Cw H1 (fun _ => true) v Dl) ⟨hD, Ex.new hD, upd_same⟩ (fun i H' _ p => ex_t ((e.trans e1).trans p.2.1) hx) (fun i x H' hi p => ⟨hw x, cw_turn p (by have := (List.getElem?_eq_some_iff.mp hi).1; omega) (fun H1 _ Q q => q H1 (Ex.refl H1)) (fun _ => he i x H1 (e.trans e1) hi)⟩)
      (fun H' p => q Dl H' (fresh_back e1 p.1) (e1.trans p.2.1) p.2.2)⟩
def RdOk (c : Nat) (t : Str) (v : V) : Prop := (c = 110 ∧ ∃ n : Int, t = numS n ∧ v = .int n ∧ n.natAbs < 10 ^ 9) ∨ (c ≠ 110 ∧ t ≠ "" ∧ v = .str (if c = 115 ∧ t = "-" then "" else t))
inductive DD
  | one (d : WD)
  | many (ds : List WD)
def DDV (K : PySem.W.Frag) (H : Hp) (a : Addr) : DD → Prop
  | .one d => DeedV K H a d
  | .many ds => ∃ (c : Addr) (ps : List Addr), SqT K H a [.str "many", .ref c] ∧ SqT K H c (ps.map V.ref) ∧ ps.length = ds.length ∧ ∀ (i : Nat) (p : Addr) (d : WD), ps[i]? = some p → ds[i]? = some d → DeedV K H p d
theorem DeedV.ext {K : PySem.W.Frag} {H H' : Hp} {a : Addr} {d : WD} (e : Ex H H') (h : DeedV K H a d) : DeedV K H' a d := by
  cases d with
  | plain w xs => exact ex_t e h
  | unsure rows =>
    obtain ⟨c, ps, h1, h2, h3, h4⟩ := h
    exact ⟨c, ps, ex_t e h1, ex_t e h2, h3, fun i p r hp hr => ex_t e (h4 i p r hp hr)⟩
theorem DDV.ext {K : PySem.W.Frag} {H H' : Hp} {a : Addr} {d : DD} (e : Ex H H') (h : DDV K H a d) : DDV K H' a d := by
  cases d with
  | one d => exact DeedV.ext e h
  | many ds =>
    obtain ⟨c, ps, h1, h2, h3, h4⟩ := h
    exact ⟨c, ps, ex_t e h1, ex_t e h2, h3, fun i p r hp hr => DeedV.ext e (h4 i p r hp hr)⟩
theorem sum_le {k : Nat} : ∀ ys : List Str, (∀ p ∈ ys, p.length ≤ k) → (ys.map (·.length)).sum ≤ ys.length * k
  | [], _ => Nat.zero_le _
  | y :: r, h => by
    have g1 := h y List.mem_cons_self
    have g2 := sum_le (k := k) r fun z hz => h z (List.mem_cons_of_mem _ hz)
    rw [List.map_cons, List.sum_cons, List.length_cons, Nat.add_mul]
    omega
theorem el_catL {ta tb : TE} {σ : L2.St} {H : Hp} {xs ys : List V} (h1 : EvL ta σ H xs) (h2 : EvL tb σ H ys) (hz : xs.length + ys.length ≤ 100000) : EvL (tOp rCat ta tb) σ H (xs ++ ys) := fun H1 e Q q =>
  h1 H1 e _ fun p1 H2 n2 e2 hp1 => h2 H2 (e.trans e2) _ fun p2 H3 n3 e3 hp2 => ⟨p1, p2, _, _, rfl, rfl, e3 _ _ hp1, hp2, sz_of hz, fun p hp => q p _ (fresh_back (e2.trans e3) hp) ((e2.trans e3).trans (Ex.new hp)) upd_same⟩
def manyT (n : Nat) : Str := Txt.join " " ["many", numS n]
def WD.fit (K : PySem.W.Frag) (dF : Addr) : WD → Prop
  | .plain w xs => w ≠ "" ∧ ∃ (fm : Str) (tk : Tok), PySem.W.nsIn K dF w = some (some (.str fm tk)) ∧ fm.cps.all (· < 128) = true ∧ fm.cps.size = xs.length ∧ ∀ (i c : Nat) (v : V), fm.cps[i]? = some c → xs[i]? = some v → RdOk c (thS v) v
  | .unsure rows => rows ≠ []
theorem DeedV.kp {K : PySem.W.Frag} {H H' : Hp} {a : Addr} {d : WD} (e : Kp H H') (h : DeedV K H a d) : DeedV K H' a d := by
  cases d with
  | plain w xs => exact e.sqt (K := K) h
  | unsure rows =>
    obtain ⟨c, ps, h1, h2, h3, h4⟩ := h
    exact ⟨c, ps, e.sqt h1, e.sqt h2, h3, fun i p r hp hr => e.sqt (h4 i p r hp hr)⟩
theorem q_call {sp : Sp} {dvs vs : List V} {E : XK} {ta : TA} {tz : TS} {D : Ends} {σ : L2.St} {H : Hp} {i : Nat} (h : EvA ta σ H vs) (k : ∀ H1, Ex H H1 → sp (vs ++ dvs) H1 (fun v H2 => tz D (σ.set i (some v)) H2) E) : tSeq (tAsg (tCall sp dvs E ta) (gName i)) tz D σ H := h H (Ex.refl _) _ fun H1 e1 => k H1 e1
theorem q_callG {sp : Sp} {dvs vs : List V} {E : XK} {ta : TA} {tz : TS} {D : Ends} {σ : L2.St} {H : Hp} {g : TG} (h : EvA ta σ H vs) (k : ∀ H1, Ex H H1 → sp (vs ++ dvs) H1 (fun v H2 => g v σ H2 fun σ' H' => tz D σ' H') E) : tSeq (tAsg (tCall sp dvs E ta) g) tz D σ H := h H (Ex.refl _) _ fun H1 e1 => k H1 e1
theorem text_len {d : WD} (ok : d.ok) : d.text.length ≤ 480 := by
  cases d with
  | plain w xs =>
    have z := join_len (y := " ") (k := 20) (ps := (V.str w :: xs).map thS) fun p hp => by
      obtain ⟨x, hx, rfl⟩ := List.mem_map.mp hp
      exact thS_len (ok.2.2.1 x hx)
    have h1 : (" " : Str).length = 1 := by decide +kernel
    rw [List.length_map, List.length_cons, h1] at z
    have hl := ok.2.2.2
    show (Txt.join " " ((V.str w :: xs).map thS)).length ≤ 480
    omega
  | unsure rows =>
    have z := join_len (y := " / ") (k := 55) (ps := rows.map rowS) fun p hp => by
      obtain ⟨x, hx, rfl⟩ := List.mem_map.mp hp
      exact rowS_len (ok.2 x hx).1 (ok.2 x hx).2
    have h3 : (" / " : Str).length = 3 := by decide +kernel
    have hu : ("unsure" ++ " " : Str).length = 7 := by decide +kernel
    rw [List.length_map, h3] at z
    have hl := ok.1
    show ("unsure" ++ " " ++ Txt.join " / " (rows.map rowS) : Str).length ≤ 480
    rw [TL.len_tl, TL.tl_append, List.length_append, ← TL.len_tl, ← TL.len_tl, hu]
    omega
end Hs
namespace Hs
open PySem PySem.Spec PyProof.Rows L2
/-! ### for x in zip(*rows), x a name: the tuple that was handed out may be held or gone -/
abbrev IsZipF (h : Heap) (z TI TO : Addr) (f0 : Value) (f1 : Bool) : Prop := h.get? z = some { cls := .type "zip", dict := none, data := .fields #[f0, .bool f1, .bool false, .ref TI, .ref TO], slots := #[] }
abbrev IsTupA (h : Heap) (T : Addr) (arr : Array Value) : Prop := h.get? T = some { cls := .type "tuple", data := .seq arr }
def OwnF (f0 : Value) : Prop := f0 = .none ∨ ∃ T : Nat, f0 = rawInt T
theorem _root_.PySem.Heap.IsTuple.at' {h h' : Heap} {l : Addr} {xs : Array Value} (x : h.IsTuple l xs) (k : ∀ o, h.get? l = some o → h'.get? l = some o) : h'.IsTuple l xs := by
  obtain ⟨o, ho, r⟩ := x
  exact ⟨o, k o ho, r⟩
theorem set2 {arr : Array Value} {x1 x2 : Value} (h : arr.size = 2) : ((arr).setIfInBounds 0 x1).setIfInBounds 1 x2 = #[x1, x2] := by
  obtain ⟨l⟩ := arr
  match l, h with
  | [a, b], _ => rfl
theorem set3 {arr : Array Value} {x1 x2 x3 : Value} (h : arr.size = 3) : (((arr).setIfInBounds 0 x1).setIfInBounds 1 x2).setIfInBounds 2 x3 = #[x1, x2, x3] := by
  obtain ⟨l⟩ := arr
  match l, h with
  | [a, b, c], _ => rfl
section
variable {prog : Program} {w : World} {A : Around} {E : Value → Shared → Prop} {s : Shared}
theorem upSeq {T : Addr} {arr : Array Value} {x : Value} {k : Nat} {Q : Unit → Shared → Prop} (hT : IsTupA s.heap T arr) (hn : arr.size ≤ 10) (h : ∀ h', IsTupA h' T (arr.setIfInBounds k x) → Heap.SameBut T s.heap h' → Q () { s with heap := h' }) : wpAny (model prog w) A (updateSeq T (·.setIfInBounds k x)) Q E s := by
  refine wpAny_updateSeq hT rfl (h _ ?_ (Heap.SameBut.update ..)) (hz := Nat.le_trans hn (by decide)) (_hz' := by rw [Array.size_setIfInBounds]; exact Nat.le_trans hn (by decide))
  rw [IsTupA, Heap.get?_update_self _ hT rfl]
  simp [Obj.mapSeq]
theorem owned_any {z TI TO : Addr} {f0 : Value} {f1 : Bool} {Q : Bool → Shared → Prop} (hz : IsZipF s.heap z TI TO f0 f1) (hf0 : OwnF f0) (ht : Q true s) (hf : ∀ h', IsZipF h' z TI TO f0 true → Heap.SameBut z s.heap h' → Q false { s with heap := h' }) :
    wpAny (model prog w) A (Builtin.SmallTypes.ownedTupleIsFree (.ref z)) Q E s := by
  unfold Builtin.SmallTypes.ownedTupleIsFree
  rcases hf0 with rfl | ⟨T, rfl⟩
  · exact wpAny_bind (wpAny_field hz rfl (x := .none) rfl (wpAny_pure ht))
  · refine wpAny_bind (wpAny_field hz rfl (x := rawInt T) rfl ?_)
    show wpAny _ _ (loadIfAlive ((T : Int).toNat) >>= _) _ _ _
    rw [Int.toNat_natCast]
    have al : ∀ {Q' : Option Obj → Shared → Prop}, Q' (s.heap.get? T) s → wpAny (model prog w) A (loadIfAlive T) Q' E s := fun h => fun _ _ _ => h
    refine wpAny_bind (al ?_)
    cases hg : s.heap.get? T with
    | none =>
      simp only [Option.isNone_none, if_true]
      exact wpAny_pure ht
    | some o =>
      simp only [Option.isNone_some, Bool.false_eq_true, if_false]
      refine wpAny_bind (wpAny_field hz rfl (x := .bool f1) rfl ?_)
      cases f1 with
      | true =>
        rw [if_neg (show ¬ ((Value.bool true != Value.bool true) = true) from Bool.false_ne_true)]
        exact wpAny_pure (hf s.heap hz (Heap.SameBut.refl _ _))
      | false =>
        rw [if_pos (show (Value.bool false != Value.bool true) = true from rfl)]
        exact wpAny_bind (wpAny_setField_rec hz (by simp) fun h₁ hz₁ hs₁ => wpAny_pure (hf h₁ hz₁ hs₁))
theorem pyIter_zipF {z TI TO : Addr} {f0 : Value} {f1 : Bool} {Q : Value → Shared → Prop} (hz : IsZipF s.heap z TI TO f0 f1) (h : Q (.ref z) s) : wpAny (model prog w) A (pyIter (.ref z)) Q E s := by
  have hT : s.TypeIs (.ref z) "zip" := ⟨_, hz, rfl⟩
  refine wpAny_pyIter_slot hT F.slot_zip_iter (wpAny_call_entry F.slot_zip_iter hT F.entry_zip_iter ?_ (F.args_zip_iter_1 _))
  show wpAny _ _ (ret (.ref z)) _ _ s
  exact wpAny_pure ⟨_, rfl, "zip", _, hT, F.slot_zip_next.lookup, h⟩
end
end Hs
namespace Hs
open PySem PySem.Spec PyProof.Rows L2
structure ZA2 (z TI TO i1 i2 l1 l2 : Addr) : Prop where
  TIz : TI ≠ z
  TOz : TO ≠ z
  TITO : TI ≠ TO
  i1z : i1 ≠ z
  TIi1 : TI ≠ i1
  TOi1 : TO ≠ i1
  i2z : i2 ≠ z
  TIi2 : TI ≠ i2
  TOi2 : TO ≠ i2
  i1i2 : i1 ≠ i2
  l1z : l1 ≠ z
  l1TO : l1 ≠ TO
  l1i1 : l1 ≠ i1
  l1i2 : l1 ≠ i2
  l2z : l2 ≠ z
  l2TO : l2 ≠ TO
  l2i1 : l2 ≠ i1
  l2i2 : l2 ≠ i2
section
variable {prog : Program} {w : World} {A : Around} {E : Value → Shared → Prop} {s : Shared}
theorem z2_next_item {z TI TO i1 i2 l1 l2 : Addr} {k : Nat} {xs1 xs2 : Array Value} {f0 : Value} {f1 : Bool} {arr : Array Value} {x1 x2 : Value} {Q : Value → Shared → Prop} (D : ZA2 z TI TO i1 i2 l1 l2) (hz : IsZipF s.heap z TI TO f0 f1) (hf0 : OwnF f0) (hTI : IsTupA s.heap TI #[.ref i1, .ref i2]) (hTO : IsTupA s.heap TO arr) (hsz : arr.size = 2) (h1 : s.heap.IsTupleIter i1 l1 k) (h2 : s.heap.IsTupleIter i2 l2 k) (hl1 : s.heap.IsTuple l1 xs1) (hl2 : s.heap.IsTuple l2 xs2) (hx1 : xs1[k]? = some x1) (hx2 : xs2[k]? = some x2)
    (hQ : ∀ h' f0' f1' arr', OwnF f0' → IsZipF h' z TI TO f0' f1' → IsTupA h' TO arr' → arr'.size = 2 → h'.IsTupleIter i1 l1 (k + 1) → h'.IsTupleIter i2 l2 (k + 1) → IsTupA h' s.heap.objs.size #[x1, x2] → h'.objs.size = s.heap.objs.size + 1 → (∀ c o, c ≠ z → c ≠ TO → c ≠ i1 → c ≠ i2 → s.heap.get? c = some o → h'.get? c = some o) → Q (.ref s.heap.objs.size) { s with heap := h' }) :
    wpAny (model prog w) A (Builtin.«zip.__next__» ⟨[.ref z], []⟩) (fun fin s' => ∃ v, fin = .done (.ret v) ∧ Q v s') E s := by
  show wpAny _ _ (field (.ref z) 2 >>= _) _ _ _
  refine wpAny_bind (wpAny_field hz rfl (x := .bool false) rfl ?_)
  show wpAny _ _ (field (.ref z) 3 >>= _) _ _ _
  refine wpAny_bind (wpAny_field hz rfl (x := .ref TI) rfl ?_)
  refine wpAny_bind (wpAny_seqItems hTI rfl ?_)
  show wpAny _ _ (Builtin.SmallTypes.ownedTupleIsFree (.ref z) >>= _) _ _ _
  refine wpAny_bind (owned_any hz hf0 ?_ fun h₁ hz₁ hs₁ => ?_)
  · simp only [if_true]
    refine wpAny_bind (wpAny_rule ?_)
    refine wpAny_bind (wpAny_field hz rfl (x := .ref TO) rfl ?_)
    refine wpAny_bind (wpAny_setField_rec hz (by simp) fun h₀ hz₀ hs₀ => ?_)
    replace hz₀ : IsZipF h₀ z TI TO .ellipsis f1 := hz₀
    have K0 : ∀ c o, c ≠ z → s.heap.get? c = some o → h₀.get? c = some o := fun c o c1 e => hs₀.extBut _ _ c1 e
    have N0 : h₀.objs.size = s.heap.objs.size := hs₀.1
    have T0 : IsTupA h₀ TO arr := K0 _ _ D.TOz hTO
    have J1_0 : h₀.IsTupleIter i1 l1 k := h1.at fun o e => K0 _ o D.i1z e
    have L1_0 : h₀.IsTuple l1 xs1 := hl1.at' fun o e => K0 _ o D.l1z e
    have J2_0 : h₀.IsTupleIter i2 l2 k := h2.at fun o e => K0 _ o D.i2z e
    have L2_0 : h₀.IsTuple l2 xs2 := hl2.at' fun o e => K0 _ o D.l2z e
    refine wpAny_bind ?_
    simp only [List.zipIdx_cons, List.zipIdx_nil, List.forIn_cons, List.forIn_nil]
    refine wpAny_bind (wpAny_bind (wpAny_onRaise ?_))
    show wpAny _ _ (Builtin.SmallTypes.nextOf (.ref i1) >>= _) _ _ _
    refine wpAny_bind (RZ.nextOf_tuple_item J1_0 L1_0 hx1 fun g1 m1 gs1 => wpAny_pure ?_)
    have V1 : IsTupA g1 TO (arr) := gs1.extBut _ _ D.TOi1 T0
    refine wpAny_bind (wpAny_seqItems V1 rfl ?_)
    refine wpAny_bind (upSeq V1 (by simp [hsz]) fun u1 T1 us1 => ?_)
    refine wpAny_bind (wpAny_letGo (wpAny_pure ?_))
    have J1_1 : u1.IsTupleIter i1 l1 (k + 1) := m1.extBut us1.extBut D.TOi1.symm
    have L1_1 : u1.IsTuple l1 xs1 := (L1_0.extBut gs1.extBut D.l1i1).extBut us1.extBut D.l1TO
    have J2_1 : u1.IsTupleIter i2 l2 k := (J2_0.extBut gs1.extBut D.i1i2.symm).extBut us1.extBut D.TOi2.symm
    have L2_1 : u1.IsTuple l2 xs2 := (L2_0.extBut gs1.extBut D.l2i1).extBut us1.extBut D.l2TO
    have K1 : ∀ c o, c ≠ z → c ≠ TO → c ≠ i1 → s.heap.get? c = some o → u1.get? c = some o := fun c o c1 c2 q1 e => us1.extBut _ _ c2 (gs1.extBut _ _ q1 (K0 c o c1  e))
    have Z1 : IsZipF u1 z TI TO .ellipsis f1 := us1.extBut _ _ D.TOz.symm (gs1.extBut _ _ D.i1z.symm hz₀)
    have N1 : u1.objs.size = s.heap.objs.size := by rw [us1.1, gs1.1, N0]
    refine wpAny_bind (wpAny_bind (wpAny_onRaise ?_))
    show wpAny _ _ (Builtin.SmallTypes.nextOf (.ref i2) >>= _) _ _ _
    refine wpAny_bind (RZ.nextOf_tuple_item J2_1 L2_1 hx2 fun g2 m2 gs2 => wpAny_pure ?_)
    have V2 : IsTupA g2 TO ((arr).setIfInBounds 0 x1) := gs2.extBut _ _ D.TOi2 T1
    refine wpAny_bind (wpAny_seqItems V2 rfl ?_)
    refine wpAny_bind (upSeq V2 (by simp [hsz]) fun u2 T2 us2 => ?_)
    refine wpAny_bind (wpAny_letGo (wpAny_pure ?_))
    have J1_2 : u2.IsTupleIter i1 l1 (k + 1) := (J1_1.extBut gs2.extBut D.i1i2).extBut us2.extBut D.TOi1.symm
    have L1_2 : u2.IsTuple l1 xs1 := (L1_1.extBut gs2.extBut D.l1i2).extBut us2.extBut D.l1TO
    have J2_2 : u2.IsTupleIter i2 l2 (k + 1) := m2.extBut us2.extBut D.TOi2.symm
    have L2_2 : u2.IsTuple l2 xs2 := (L2_1.extBut gs2.extBut D.l2i2).extBut us2.extBut D.l2TO
    have K2 : ∀ c o, c ≠ z → c ≠ TO → c ≠ i1 → c ≠ i2 → s.heap.get? c = some o → u2.get? c = some o := fun c o c1 c2 q1 q2 e => us2.extBut _ _ c2 (gs2.extBut _ _ q2 (K1 c o c1 c2 q1 e))
    have Z2 : IsZipF u2 z TI TO .ellipsis f1 := us2.extBut _ _ D.TOz.symm (gs2.extBut _ _ D.i2z.symm Z1)
    have N2 : u2.objs.size = s.heap.objs.size := by rw [us2.1, gs2.1, N1]
    refine wpAny_pure ?_
    refine wpAny_bind (wpAny_seqItems T2 rfl ?_)
    have ea : (((arr).setIfInBounds 0 x1).setIfInBounds 1 x2) = #[x1, x2] := set2 hsz
    rw [ea] at T2 ⊢
    refine wpAny_bind (wpAny_newTuple ?_)
    show wpAny _ _ (Builtin.SmallTypes.ownedTupleHandOut (.ref z) (.ref u2.objs.size) >>= _) _ _ _
    refine wpAny_bind ?_
    unfold Builtin.SmallTypes.ownedTupleHandOut
    have zlt : z < u2.objs.size := Heap.lt_size Z2
    have hz₆ : IsZipF (u2.push { cls := .type "tuple", data := .seq #[x1, x2] }) z TI TO .ellipsis f1 := Heap.get?_push_of_some _ Z2
    refine wpAny_bind (wpAny_setField_rec hz₆ (by simp) fun h₇ hz₇ hs₇ => ?_)
    replace hz₇ : IsZipF h₇ z TI TO (rawInt u2.objs.size) f1 := hz₇
    refine wpAny_setField_rec hz₇ (by simp) fun h₈ hz₈ hs₈ => ?_
    replace hz₈ : IsZipF h₈ z TI TO (rawInt u2.objs.size) false := hz₈
    have up : ∀ c o, c ≠ z → u2.get? c = some o → h₈.get? c = some o := fun c o c1 e => hs₈.extBut _ _ c1 (hs₇.extBut _ _ c1 (Heap.get?_push_of_some _ e))
    have hT₈ : IsTupA h₈ u2.objs.size #[x1, x2] := hs₈.extBut _ _ (Nat.ne_of_gt zlt) (hs₇.extBut _ _ (Nat.ne_of_gt zlt) (Heap.get?_push_size _ rfl))
    have hz8 : h₈.objs.size = u2.objs.size + 1 := by rw [hs₈.1, hs₇.1, Heap.size_push]
    refine wpAny_pure ⟨_, rfl, ?_⟩
    show Q (.ref u2.objs.size) _
    rw [N2] at hz₈ hT₈ hz8 ⊢
    exact hQ h₈ _ _ _ (.inr ⟨_, rfl⟩) hz₈ (up _ _ D.TOz T2) rfl (J1_2.at fun o e => up _ o D.i1z e) (J2_2.at fun o e => up _ o D.i2z e) hT₈ hz8 fun c o c1 c2 q1 q2 e => up c o c1 (K2 c o c1 c2 q1 q2 e)
  · simp only [Bool.false_eq_true, if_false]
    have K0 : ∀ c o, c ≠ z → s.heap.get? c = some o → h₁.get? c = some o := fun c o c1 e => hs₁.extBut _ _ c1 e
    have J1_0 : h₁.IsTupleIter i1 l1 k := h1.at fun o e => K0 _ o D.i1z e
    have L1_0 : h₁.IsTuple l1 xs1 := hl1.at' fun o e => K0 _ o D.l1z e
    have J2_0 : h₁.IsTupleIter i2 l2 k := h2.at fun o e => K0 _ o D.i2z e
    have L2_0 : h₁.IsTuple l2 xs2 := hl2.at' fun o e => K0 _ o D.l2z e
    refine wpAny_bind ?_
    rw [← Array.forIn_toList]
    simp only [List.forIn_cons, List.forIn_nil]
    refine wpAny_bind (wpAny_bind (wpAny_holding ?_))
    show wpAny _ _ (Builtin.SmallTypes.nextOf (.ref i1) >>= _) _ _ _
    refine wpAny_bind (RZ.nextOf_tuple_item (s := { s with heap := h₁ }) J1_0 L1_0 hx1 fun g1 m1 gs1 => wpAny_pure ?_)
    refine wpAny_pure ?_
    have J1_1 : g1.IsTupleIter i1 l1 (k + 1) := m1
    have L1_1 : g1.IsTuple l1 xs1 := L1_0.extBut gs1.extBut D.l1i1
    have J2_1 : g1.IsTupleIter i2 l2 k := J2_0.extBut gs1.extBut D.i1i2.symm
    have L2_1 : g1.IsTuple l2 xs2 := L2_0.extBut gs1.extBut D.l2i1
    refine wpAny_bind (wpAny_bind (wpAny_holding ?_))
    show wpAny _ _ (Builtin.SmallTypes.nextOf (.ref i2) >>= _) _ _ _
    refine wpAny_bind (RZ.nextOf_tuple_item (s := { s with heap := g1 }) J2_1 L2_1 hx2 fun g2 m2 gs2 => wpAny_pure ?_)
    refine wpAny_pure (wpAny_pure ?_)
    have J1_2 : g2.IsTupleIter i1 l1 (k + 1) := J1_1.extBut gs2.extBut D.i1i2
    have L1_2 : g2.IsTuple l1 xs1 := L1_1.extBut gs2.extBut D.l1i2
    have J2_2 : g2.IsTupleIter i2 l2 (k + 1) := m2
    have L2_2 : g2.IsTuple l2 xs2 := L2_1.extBut gs2.extBut D.l2i2
    show wpAny _ _ (newTuple [x1, x2] >>= _) _ _ _
    refine wpAny_bind (wpAny_newTuple ?_)
    have hsz' : g2.objs.size = s.heap.objs.size := by rw [gs2.1, gs1.1, hs₁.1]
    have hz3 : IsZipF g2 z TI TO f0 true := (gs2.extBut _ _ D.i2z.symm (gs1.extBut _ _ D.i1z.symm hz₁))
    have hk : ∀ c o, c ≠ z → c ≠ i1 → c ≠ i2 → s.heap.get? c = some o → g2.get? c = some o := fun c o c1 q1 q2 e => (gs2.extBut _ _ q2 (gs1.extBut _ _ q1 (K0 c o c1 e)))
    refine wpAny_pure ⟨_, rfl, ?_⟩
    show Q (.ref g2.objs.size) _
    have hp : IsTupA (g2.push { cls := .type "tuple", data := .seq #[x1, x2] }) g2.objs.size #[x1, x2] := Heap.get?_push_size _ rfl
    have hz4 : (g2.push { cls := .type "tuple", data := .seq #[x1, x2] }).objs.size = g2.objs.size + 1 := Heap.size_push ..
    rw [hsz'] at hp hz4 ⊢
    exact hQ _ _ _ _ hf0 (Heap.get?_push_of_some _ hz3) (Heap.get?_push_of_some _ (hk _ _ D.TOz D.TOi1 D.TOi2 hTO)) hsz (J1_2.at fun o e => Heap.get?_push_of_some _ e) (J2_2.at fun o e => Heap.get?_push_of_some _ e) hp hz4 fun c o c1 c2 q1 q2 e => Heap.get?_push_of_some _ (hk c o c1 q1 q2 e)
theorem z2_next_end {z TI TO i1 i2 l1 l2 : Addr} {k : Nat} {xs1 xs2 : Array Value} {f0 : Value} {f1 : Bool} {arr : Array Value} {Q : Fin → Shared → Prop} (hh : A.handled = none) (D : ZA2 z TI TO i1 i2 l1 l2) (hz : IsZipF s.heap z TI TO f0 f1) (hf0 : OwnF f0) (hTI : IsTupA s.heap TI #[.ref i1, .ref i2]) (hTO : IsTupA s.heap TO arr) (hsz : arr.size = 2) (h1 : s.heap.IsTupleIter i1 l1 k) (h2 : s.heap.IsTupleIter i2 l2 k) (hl1 : s.heap.IsTuple l1 xs1) (hl2 : s.heap.IsTuple l2 xs2) (hx : xs1[k]? = none)
    (hE : ∀ h' e, (∀ c o, c ≠ z → c ≠ TO → c ≠ i1 → c ≠ i2 → s.heap.get? c = some o → h'.get? c = some o) → (∃ o, h'.get? e = some o ∧ o.cls = .type "StopIteration") → E (.ref e) { s with heap := h' }) :
    wpAny (model prog w) A (Builtin.«zip.__next__» ⟨[.ref z], []⟩) Q E s := by
  show wpAny _ _ (field (.ref z) 2 >>= _) _ _ _
  refine wpAny_bind (wpAny_field hz rfl (x := .bool false) rfl ?_)
  show wpAny _ _ (field (.ref z) 3 >>= _) _ _ _
  refine wpAny_bind (wpAny_field hz rfl (x := .ref TI) rfl ?_)
  refine wpAny_bind (wpAny_seqItems hTI rfl ?_)
  show wpAny _ _ (Builtin.SmallTypes.ownedTupleIsFree (.ref z) >>= _) _ _ _
  refine wpAny_bind (owned_any hz hf0 ?_ fun h₁ hz₁ hs₁ => ?_)
  · simp only [if_true]
    refine wpAny_bind (wpAny_rule ?_)
    refine wpAny_bind (wpAny_field hz rfl (x := .ref TO) rfl ?_)
    refine wpAny_bind (wpAny_setField_rec hz (by simp) fun h₀ hz₀ hs₀ => ?_)
    replace hz₀ : IsZipF h₀ z TI TO .ellipsis f1 := hz₀
    refine wpAny_bind ?_
    simp only [List.zipIdx_cons, List.zipIdx_nil, List.forIn_cons, List.forIn_nil]
    refine wpAny_bind (wpAny_bind (wpAny_onRaise ?_))
    show wpAny _ _ (Builtin.SmallTypes.nextOf (.ref i1) >>= _) _ _ _
    refine wpAny_bind (RZ.nextOf_tuple_end hh (h1.extBut hs₀.extBut D.i1z) (hl1.extBut hs₀.extBut D.l1z) hx fun h₂ e hs₂ he => ?_)
    obtain ⟨oe, hoe, hce⟩ := he
    have hz₂ : IsZipF h₂ z TI TO .ellipsis f1 := hs₂ _ _ D.i1z.symm hz₀
    have hez : e ≠ z := fun x => by subst x; rw [hz₂] at hoe; cases hoe; simp at hce
    refine wpAny_setField_rec hz₂ (by simp) fun h₃ _ hs₃ => hE h₃ e (fun c o c1 _ c3 _ x => hs₃.extBut _ _ c1 (hs₂ _ _ c3 (hs₀.extBut _ _ c1 x))) ⟨oe, hs₃.extBut _ _ hez hoe, hce⟩
  · simp only [Bool.false_eq_true, if_false]
    refine wpAny_bind ?_
    rw [← Array.forIn_toList]
    simp only [List.forIn_cons, List.forIn_nil]
    refine wpAny_bind (wpAny_bind (wpAny_holding ?_))
    show wpAny _ _ (Builtin.SmallTypes.nextOf (.ref i1) >>= _) _ _ _
    refine wpAny_bind (RZ.nextOf_tuple_end (s := { s with heap := h₁ }) hh (h1.extBut hs₁.extBut D.i1z) (hl1.extBut hs₁.extBut D.l1z) hx fun h₂ e hs₂ he => ?_)
    exact hE h₂ e (fun c o c1 _ c3 _ x => hs₂ _ _ c3 (hs₁.extBut _ _ c1 x)) he
theorem z2_pyNext_item {z TI TO i1 i2 l1 l2 : Addr} {k : Nat} {xs1 xs2 : Array Value} {f0 : Value} {f1 : Bool} {arr : Array Value} {x1 x2 : Value} {Q : Option Value → Shared → Prop} (D : ZA2 z TI TO i1 i2 l1 l2) (hz : IsZipF s.heap z TI TO f0 f1) (hf0 : OwnF f0) (hTI : IsTupA s.heap TI #[.ref i1, .ref i2]) (hTO : IsTupA s.heap TO arr) (hsz : arr.size = 2) (h1 : s.heap.IsTupleIter i1 l1 k) (h2 : s.heap.IsTupleIter i2 l2 k) (hl1 : s.heap.IsTuple l1 xs1) (hl2 : s.heap.IsTuple l2 xs2) (hx1 : xs1[k]? = some x1) (hx2 : xs2[k]? = some x2)
    (hQ : ∀ h' f0' f1' arr', OwnF f0' → IsZipF h' z TI TO f0' f1' → IsTupA h' TO arr' → arr'.size = 2 → h'.IsTupleIter i1 l1 (k + 1) → h'.IsTupleIter i2 l2 (k + 1) → IsTupA h' s.heap.objs.size #[x1, x2] → h'.objs.size = s.heap.objs.size + 1 → (∀ c o, c ≠ z → c ≠ TO → c ≠ i1 → c ≠ i2 → s.heap.get? c = some o → h'.get? c = some o) → Q (some (.ref s.heap.objs.size)) { s with heap := h' }) : wpAny (model prog w) A (pyNext (.ref z)) Q E s := by
  have hT : s.TypeIs (.ref z) "zip" := ⟨_, hz, rfl⟩
  unfold pyNext
  exact wpAny_bind (wpAny_attempt (wpAny_callSpecial?_slot (name := Str.ofString "__next__") hT F.slot_zip_next
    (wpAny_call_entry F.slot_zip_next hT F.entry_zip_next
      (z2_next_item D hz hf0 hTI hTO hsz h1 h2 hl1 hl2 hx1 hx2 fun h' b0 b1 b2 b3 b4 b5 b6 b7 b8 b9 b10 b11 => wpAny_pure (hQ h' b0 b1 b2 b3 b4 b5 b6 b7 b8 b9 b10 b11)) (F.args_zip_next_1 _))))
theorem z2_pyNext_end {z TI TO i1 i2 l1 l2 : Addr} {k : Nat} {xs1 xs2 : Array Value} {f0 : Value} {f1 : Bool} {arr : Array Value} {Q : Option Value → Shared → Prop} (hh : A.handled = none) (D : ZA2 z TI TO i1 i2 l1 l2) (hz : IsZipF s.heap z TI TO f0 f1) (hf0 : OwnF f0) (hTI : IsTupA s.heap TI #[.ref i1, .ref i2]) (hTO : IsTupA s.heap TO arr) (hsz : arr.size = 2) (h1 : s.heap.IsTupleIter i1 l1 k) (h2 : s.heap.IsTupleIter i2 l2 k) (hl1 : s.heap.IsTuple l1 xs1) (hl2 : s.heap.IsTuple l2 xs2) (hx : xs1[k]? = none)
    (hQ : ∀ h', (∀ c o, c ≠ z → c ≠ TO → c ≠ i1 → c ≠ i2 → s.heap.get? c = some o → h'.get? c = some o) → Q none { s with heap := h' }) : wpAny (model prog w) A (pyNext (.ref z)) Q E s := by
  have hT : s.TypeIs (.ref z) "zip" := ⟨_, hz, rfl⟩
  unfold pyNext
  refine wpAny_bind (wpAny_attempt (wpAny_callSpecial?_slot (name := Str.ofString "__next__") hT F.slot_zip_next
    (wpAny_call_entry F.slot_zip_next hT F.entry_zip_next (z2_next_end hh D hz hf0 hTI hTO hsz h1 h2 hl1 hl2 hx fun h' e hk he => ?_) (F.args_zip_next_1 _))))
  obtain ⟨o, ho, hc⟩ := he
  refine wpAny_bind (wpAny_isInstance (T := "StopIteration") (b := true) ⟨o, ho, hc⟩ isSubtype_stop ?_)
  exact wpAny_pure (hQ _ hk)
end
abbrev zt2H1 (h : Heap) (l1 : Addr) : Heap := h.push { cls := .type "tuple_iterator", data := .fields #[.ref l1, .int 0 0] }
abbrev zt2H2 (h : Heap) (l1 l2 : Addr) : Heap := (zt2H1 h l1).push { cls := .type "tuple_iterator", data := .fields #[.ref l2, .int 0 0] }
abbrev zt2TI (h : Heap) (l1 l2 : Addr) : Heap := (zt2H2 h l1 l2).push { cls := .type "tuple", data := .seq #[.ref h.objs.size, .ref (zt2H1 h l1).objs.size] }
abbrev zt2TO (h : Heap) (l1 l2 : Addr) : Heap := (zt2TI h l1 l2).push { cls := .type "tuple", data := .seq #[.none, .none] }
abbrev zt2Z (h : Heap) (l1 l2 : Addr) : Heap := (zt2TO h l1 l2).push { cls := .type "zip", data := .fields #[.none, .bool false, .bool false, .ref (zt2H2 h l1 l2).objs.size, .ref (zt2TI h l1 l2).objs.size] }
theorem meets_z2_new (l1 l2 : Addr) (xs1 xs2 : Array Value) :
    Meets (Builtin.«zip.__new__» ⟨[.type "zip", .ref l1, .ref l2], []⟩) (fun _ R s => s.heap.IsTuple l1 xs1 ∧ s.heap.IsTuple l2 xs2 ∧
      R (.ok (.ret (.ref (zt2TO s.heap l1 l2).objs.size))) { s with heap := zt2Z s.heap l1 l2 }) :=
  .of_wp fun prog w A R s h => by
    obtain ⟨hp, g, d, tk, os⟩ := s; obtain ⟨hl1, hl2, h⟩ := h
    have hsub := sub_zip
    have hL1 : Heap.IsTuple (Shared.heap ⟨hp, g, d, tk, os⟩) l1 xs1 := hl1
    have hL2 : Heap.IsTuple (Shared.heap ⟨(zt2H1 hp l1), g, d, tk, os⟩) l2 xs2 := Heap.IsTuple.push (hl2) _
    wp_walk using wpAny_pyIter_tuple hL1, wpAny_pyIter_tuple hL2
    exact ⟨_, rfl, h⟩
section
variable {prog : Program} {w : World} {A : Around} {E : Value → Shared → Prop} {s : Shared}
theorem call_z2 {l1 l2 : Addr} {xs1 xs2 : Array Value} {Q : Value → Shared → Prop} (hl1 : s.heap.IsTuple l1 xs1) (hl2 : s.heap.IsTuple l2 xs2)
    (h : ∀ h', IsZipF h' (s.heap.objs.size + 4) (s.heap.objs.size + 2) (s.heap.objs.size + 3) .none false → IsTupA h' (s.heap.objs.size + 2) #[.ref s.heap.objs.size, .ref (s.heap.objs.size + 1)] → IsTupA h' (s.heap.objs.size + 3) #[.none, .none] → h'.IsTupleIter s.heap.objs.size l1 0 → h'.IsTupleIter (s.heap.objs.size + 1) l2 0 → h'.objs.size = (s.heap.objs.size + 5) → (∀ c o, s.heap.get? c = some o → h'.get? c = some o) → Q (.ref (s.heap.objs.size + 4)) { s with heap := h' }) :
    wpAny (model prog w) A (call (.type "zip") [.ref l1, .ref l2]) Q E s := by
  refine callType_new F.called_zip (by decide) (F.typeCall_zip_2 _ _) (F.newCall_zip_2 _ _) (fun obj => F.args_object_init_3 obj _ _) F.entry_zip_new (meets_z2_new l1 l2 xs1 xs2) ⟨hl1, hl2, ?_⟩
  have z1 : (zt2H1 s.heap l1).objs.size = (s.heap.objs.size + 1) := Heap.size_push ..
  have z2 : (zt2H2 s.heap l1 l2).objs.size = (s.heap.objs.size + 2) := by rw [Heap.size_push, z1]
  have z3 : (zt2TI s.heap l1 l2).objs.size = (s.heap.objs.size + 3) := by rw [Heap.size_push, z2]
  have z4 : (zt2TO s.heap l1 l2).objs.size = (s.heap.objs.size + 4) := by rw [Heap.size_push, z3]
  have z5 : (zt2Z s.heap l1 l2).objs.size = (s.heap.objs.size + 5) := by rw [Heap.size_push, z4]
  have g0 : (zt2Z s.heap l1 l2).get? s.heap.objs.size = some _ := Heap.get?_push_of_some _ (Heap.get?_push_of_some _ (Heap.get?_push_of_some _ (Heap.get?_push_of_some _ (Heap.get?_push_size _ rfl))))
  have g1 : (zt2Z s.heap l1 l2).get? (zt2H1 s.heap l1).objs.size = some _ := Heap.get?_push_of_some _ (Heap.get?_push_of_some _ (Heap.get?_push_of_some _ (Heap.get?_push_size _ rfl)))
  have g2 : (zt2Z s.heap l1 l2).get? (zt2H2 s.heap l1 l2).objs.size = some _ := Heap.get?_push_of_some _ (Heap.get?_push_of_some _ (Heap.get?_push_size _ rfl))
  have g3 : (zt2Z s.heap l1 l2).get? (zt2TI s.heap l1 l2).objs.size = some _ := Heap.get?_push_of_some _ (Heap.get?_push_size _ rfl)
  have g4 : (zt2Z s.heap l1 l2).get? (zt2TO s.heap l1 l2).objs.size = some _ := Heap.get?_push_size _ rfl
  show _ ∧ _
  rw [z2, z3, z4] at g4
  rw [z1, z2] at g2
  rw [z3] at g3
  rw [z1] at g1
  rw [z4]
  exact ⟨⟨_, g4, rfl⟩, h _ g4 g2 g3 ⟨_, g0, rfl, rfl⟩ ⟨_, g1, rfl, rfl⟩ z5 fun c o x => Heap.get?_push_of_some _ (Heap.get?_push_of_some _ (Heap.get?_push_of_some _ (Heap.get?_push_of_some _ (Heap.get?_push_of_some _ (x)))))⟩
end
/-- the 2 tuples as they stand at each turn, the items in a new tuple -/
def ItS2 (K : PySem.W.Frag) (a1 a2 : Addr) : It :=
  ⟨fun i H => ∃ (xs1 xs2 : List V) (x1 x2 : V), SqT K H a1 xs1 ∧ SqT K H a2 xs2 ∧ xs1[i]? = some x1 ∧ xs2[i]? = some x2,
    fun i H v H' => ∃ T x1 x2, v = .ref T ∧ H T = none ∧ H' = upd H T (.tup [x1, x2]) ∧ (∀ ys, SqT K H a1 ys → ys[i]? = some x1) ∧ (∀ ys, SqT K H a2 ys → ys[i]? = some x2),
    fun i H => ∃ (xs1 xs2 : List V), SqT K H a1 xs1 ∧ SqT K H a2 xs2 ∧ xs1.length ≤ i⟩
theorem turn_S2 {P : Program} {w : World} {K : PySem.W.Frag} {nm : Str} {tpos : Pos} {z TI TO i1 i2 a1 a2 : Addr} (D : ZA2 z TI TO i1 i2 a1 a2) : Turn P w K (.Name nm tpos) (ItS2 K a1 a2) [z, TI, TO, i1, i2] z (fun i h => ∃ f0 f1 arr, OwnF f0 ∧ IsZipF h z TI TO f0 f1 ∧ IsTupA h TI #[.ref i1, .ref i2] ∧ IsTupA h TO arr ∧ arr.size = 2 ∧ h.IsTupleIter i1 a1 i ∧ h.IsTupleIter i2 a2 i) where
  mem := by simp
  obj := fun i h st c hc => by
    obtain ⟨f0, f1, arr, hf0, hz, hTI, hTO, hsz, ⟨o1, e1, _, d1⟩, ⟨o2, e2, _, d2⟩⟩ := st
    have e' : c = z ∨ c = TI ∨ c = TO ∨ c = i1 ∨ c = i2 := by simpa using hc
    rcases e' with q | q | q | q | q
    · rw [q]; exact ⟨_, hz, fun v q => nomatch q⟩
    · rw [q]; exact ⟨_, hTI, fun v q => nomatch q⟩
    · rw [q]; exact ⟨_, hTO, fun v q => nomatch q⟩
    · rw [q]; exact ⟨o1, e1, fun v q => by rw [d1] at q; cases q⟩
    · rw [q]; exact ⟨o2, e2, fun v q => by rw [d2] at q; cases q⟩
  keep := fun i h h' st k => by
    obtain ⟨f0, f1, arr, hf0, hz, hTI, hTO, hsz, h1, h2⟩ := st
    exact ⟨f0, f1, arr, hf0, k z (by simp) _ hz, k TI (by simp) _ hTI, k TO (by simp) _ hTO, hsz, h1.at fun o q => k i1 (by simp) o q, h2.at fun o q => k i2 (by simp) o q⟩
  item := by
    intro X hP hw hK hc i pins s σ H E I hf st hg
    subst hP hw hK
    obtain ⟨f0, f1, arr, hf0, hz, hTI, hTO, hsz, h1, h2⟩ := st
    obtain ⟨xs1, xs2, x1, x2, hq1, hq2, hx1, hx2⟩ := hg
    obtain ⟨its1, rv1, p1, _⟩ := I.tuple hq1
    obtain ⟨w1, hw1, rw1⟩ := rv1.get hx1
    obtain ⟨its2, rv2, p2, _⟩ := I.tuple hq2
    obtain ⟨w2, hw2, rw2⟩ := rv2.get hx2
    have hzl : z < s.heap.objs.size := Heap.lt_size hz
    refine z2_pyNext_item D hz hf0 hTI hTO hsz h1 h2 p1 p2 (by simpa using hw1) (by simpa using hw2) fun h' f0' f1' arr' hf0' hz' TO' hsz' h1' h2' hT hsz2 hk => ?_
    refine ⟨_, rfl, wpAny_pure ?_⟩
    have new : ObjOk X.prog X.w (upd H s.heap.objs.size (.tup [x1, x2])) h' s.heap.objs.size (.tup [x1, x2]) := ⟨by show 2 ≤ sizeLine; decide, [w1, w2], .cons rw1 (.cons rw2 (.nil)), ⟨_, hT, rfl, _, rfl⟩⟩
    have I1 : Inv X pins σ (upd H s.heap.objs.size (.tup [x1, x2])) { s with heap := h' } :=
      I.turnedNew (t' := s.toks) (ch := [z, TI, TO, i1, i2]) (fun c o hb q => hk c o (fun q' => hb (by simp [q'])) (fun q' => hb (by simp [q'])) (fun q' => hb (by simp [q'])) (fun q' => hb (by simp [q'])) q) hf (Nat.le_refl _) new
    refine ⟨.ref s.heap.objs.size, _, I1, rfl, ⟨_, x1, x2, rfl, I.hok.fresh (Nat.le_refl _), rfl, fun l hl => by rw [I.tuple_inj hl hq1]; exact hx1, fun l hl => by rw [I.tuple_inj hl hq2]; exact hx2⟩, ⟨f0', f1', arr', hf0', hz', ?_, TO', hsz', h1', h2'⟩, fun c hcm => ?_⟩
    · exact hk _ _ D.TIz D.TITO D.TIi1 D.TIi2 hTI
    · have hlt : c < s.heap.objs.size := by
        have e' : c = z ∨ c = TI ∨ c = TO ∨ c = i1 ∨ c = i2 := by simpa using hcm
        rcases e' with q | q | q | q | q
        · rw [q]; exact hzl
        · rw [q]; exact Heap.lt_size hTI
        · rw [q]; exact Heap.lt_size hTO
        · rw [q]; obtain ⟨_, e1, _⟩ := h1; exact Heap.lt_size e1
        · rw [q]; obtain ⟨_, e1, _⟩ := h2; exact Heap.lt_size e1
      rw [upd_ne (Nat.ne_of_lt hlt)]
      exact (hf c hcm).1
  done := by
    intro X hP hw hK hc i pins s σ H E I hf st hg
    subst hP hw hK
    obtain ⟨f0, f1, arr, hf0, hz, hTI, hTO, hsz, h1, h2⟩ := st
    obtain ⟨xs1, xs2, hq1, hq2, hend⟩ := hg
    obtain ⟨its1, rv1, p1, _⟩ := I.tuple hq1
    obtain ⟨its2, rv2, p2, _⟩ := I.tuple hq2
    have l1 := rv1.length
    exact z2_pyNext_end (I.ok.hd hc) D hz hf0 hTI hTO hsz h1 h2 p1 p2 (by simp; omega) fun h' hk => ⟨rfl, I.turnedL (t' := s.toks) (ch := [z, TI, TO, i1, i2]) (fun c o hb q => hk c o (fun q' => hb (by simp [q'])) (fun q' => hb (by simp [q'])) (fun q' => hb (by simp [q'])) (fun q' => hb (by simp [q'])) q) hf⟩
  self := fun A i s Q E st h => by
    obtain ⟨f0, f1, arr, hf0, hz, _⟩ := st
    exact pyIter_zipF hz h
end Hs
namespace Hs
open PySem PySem.Spec PyProof.Rows L2
/-! ### for a, b in zip(text, list): a text of plain signs -/
theorem _root_.PySem.Heap.IsStrIter.at {h h' : Heap} {a : Addr} {ty : String} {x : Str} {t : Tok} {i : Nat} (y : h.IsStrIter a ty x t i) (e : ∀ o, h.get? a = some o → h'.get? a = some o) : h'.IsStrIter a ty x t i := let ⟨o, ho, r⟩ := y; ⟨o, e o ho, r⟩
section
variable {prog : Program} {w : World} {A : Around} {E : Value → Shared → Prop} {s : Shared}
theorem zt_next_item {z TI TO i1 i2 l2 : Addr} {k : Nat} {X : Str} {t : Tok} {xs2 : Array Value} {f0 : Value} {f1 : Bool} {arr : Array Value} {cp : Nat} {x2 : Value} {Q : Value → Shared → Prop} (D : ZA2 z TI TO i1 i2 l2 l2) (hz : IsZipF s.heap z TI TO f0 f1) (hf0 : OwnF f0) (hTI : IsTupA s.heap TI #[.ref i1, .ref i2]) (hTO : IsTupA s.heap TO arr) (hsz : arr.size = 2) (h1 : s.heap.IsStrIter i1 "str_ascii_iterator" X t k) (h2 : s.heap.IsListIter i2 l2 k) (hl2 : s.heap.IsList l2 xs2) (hx1 : X.cps[k]? = some cp) (hx2 : xs2[k]? = some x2)
    (hQ : ∀ h' f0' f1' arr', OwnF f0' → IsZipF h' z TI TO f0' f1' → IsTupA h' TO arr' → arr'.size = 2 → h'.IsStrIter i1 "str_ascii_iterator" X t (k + 1) → h'.IsListIter i2 l2 (k + 1) → IsTupA h' s.heap.objs.size #[.str ⟨#[cp]⟩ s.toks, x2] → h'.objs.size = s.heap.objs.size + 1 → (∀ c o, c ≠ z → c ≠ TO → c ≠ i1 → c ≠ i2 → s.heap.get? c = some o → h'.get? c = some o) → Q (.ref s.heap.objs.size) { s with heap := h', toks := s.toks + 1 }) :
    wpAny (model prog w) A (Builtin.«zip.__next__» ⟨[.ref z], []⟩) (fun fin s' => ∃ v, fin = .done (.ret v) ∧ Q v s') E s := by
  show wpAny _ _ (field (.ref z) 2 >>= _) _ _ _
  refine wpAny_bind (wpAny_field hz rfl (x := .bool false) rfl ?_)
  show wpAny _ _ (field (.ref z) 3 >>= _) _ _ _
  refine wpAny_bind (wpAny_field hz rfl (x := .ref TI) rfl ?_)
  refine wpAny_bind (wpAny_seqItems hTI rfl ?_)
  show wpAny _ _ (Builtin.SmallTypes.ownedTupleIsFree (.ref z) >>= _) _ _ _
  refine wpAny_bind (owned_any hz hf0 ?_ fun h₁ hz₁ hs₁ => ?_)
  · simp only [if_true]
    refine wpAny_bind (wpAny_rule ?_)
    refine wpAny_bind (wpAny_field hz rfl (x := .ref TO) rfl ?_)
    refine wpAny_bind (wpAny_setField_rec hz (by simp) fun h₀ hz₀ hs₀ => ?_)
    replace hz₀ : IsZipF h₀ z TI TO .ellipsis f1 := hz₀
    have K0 : ∀ c o, c ≠ z → s.heap.get? c = some o → h₀.get? c = some o := fun c o c1 e => hs₀.extBut _ _ c1 e
    have N0 : h₀.objs.size = s.heap.objs.size := hs₀.1
    have T0 : IsTupA h₀ TO arr := K0 _ _ D.TOz hTO
    have J1_0 : h₀.IsStrIter i1 "str_ascii_iterator" X t k := h1.at fun o e => K0 _ o D.i1z e
    have J2_0 : h₀.IsListIter i2 l2 k := h2.at fun o e => K0 _ o D.i2z e
    have L2_0 : h₀.IsList l2 xs2 := hl2.at fun o e => K0 _ o D.l2z e
    refine wpAny_bind ?_
    simp only [List.zipIdx_cons, List.zipIdx_nil, List.forIn_cons, List.forIn_nil]
    refine wpAny_bind (wpAny_bind (wpAny_onRaise ?_))
    show wpAny _ _ (Builtin.SmallTypes.nextOf (.ref i1) >>= _) _ _ _
    refine wpAny_bind (wpAny_nextOf_ascii_item J1_0 hx1 fun g1 m1 gs1 => wpAny_pure ?_)
    have V1 : IsTupA g1 TO (arr) := gs1.extBut _ _ D.TOi1 T0
    refine wpAny_bind (wpAny_seqItems V1 rfl ?_)
    refine wpAny_bind (upSeq V1 (by simp [hsz]) fun u1 T1 us1 => ?_)
    refine wpAny_bind (wpAny_letGo (wpAny_pure ?_))
    have J1_1 : u1.IsStrIter i1 "str_ascii_iterator" X t (k + 1) := m1.extBut us1.extBut D.TOi1.symm
    have J2_1 : u1.IsListIter i2 l2 k := (J2_0.extBut gs1.extBut D.i1i2.symm).extBut us1.extBut D.TOi2.symm
    have L2_1 : u1.IsList l2 xs2 := (L2_0.extBut gs1.extBut D.l2i1).extBut us1.extBut D.l2TO
    have K1 : ∀ c o, c ≠ z → c ≠ TO → c ≠ i1 → s.heap.get? c = some o → u1.get? c = some o := fun c o c1 c2 q1 e => us1.extBut _ _ c2 (gs1.extBut _ _ q1 (K0 c o c1  e))
    have Z1 : IsZipF u1 z TI TO .ellipsis f1 := us1.extBut _ _ D.TOz.symm (gs1.extBut _ _ D.i1z.symm hz₀)
    have N1 : u1.objs.size = s.heap.objs.size := by rw [us1.1, gs1.1, N0]
    refine wpAny_bind (wpAny_bind (wpAny_onRaise ?_))
    show wpAny _ _ (Builtin.SmallTypes.nextOf (.ref i2) >>= _) _ _ _
    refine wpAny_bind (wpAny_nextOf_list_item J2_1 L2_1 hx2 fun g2 m2 gs2 => wpAny_pure ?_)
    have V2 : IsTupA g2 TO ((arr).setIfInBounds 0 (.str ⟨#[cp]⟩ s.toks)) := gs2.extBut _ _ D.TOi2 T1
    refine wpAny_bind (wpAny_seqItems V2 rfl ?_)
    refine wpAny_bind (upSeq V2 (by simp [hsz]) fun u2 T2 us2 => ?_)
    refine wpAny_bind (wpAny_letGo (wpAny_pure ?_))
    have J1_2 : u2.IsStrIter i1 "str_ascii_iterator" X t (k + 1) := (J1_1.extBut gs2.extBut D.i1i2).extBut us2.extBut D.TOi1.symm
    have J2_2 : u2.IsListIter i2 l2 (k + 1) := m2.extBut us2.extBut D.TOi2.symm
    have L2_2 : u2.IsList l2 xs2 := (L2_1.extBut gs2.extBut D.l2i2).extBut us2.extBut D.l2TO
    have K2 : ∀ c o, c ≠ z → c ≠ TO → c ≠ i1 → c ≠ i2 → s.heap.get? c = some o → u2.get? c = some o := fun c o c1 c2 q1 q2 e => us2.extBut _ _ c2 (gs2.extBut _ _ q2 (K1 c o c1 c2 q1 e))
    have Z2 : IsZipF u2 z TI TO .ellipsis f1 := us2.extBut _ _ D.TOz.symm (gs2.extBut _ _ D.i2z.symm Z1)
    have N2 : u2.objs.size = s.heap.objs.size := by rw [us2.1, gs2.1, N1]
    refine wpAny_pure ?_
    refine wpAny_bind (wpAny_seqItems T2 rfl ?_)
    have ea : (((arr).setIfInBounds 0 (.str ⟨#[cp]⟩ s.toks)).setIfInBounds 1 x2) = #[.str ⟨#[cp]⟩ s.toks, x2] := set2 hsz
    rw [ea] at T2 ⊢
    refine wpAny_bind (wpAny_newTuple ?_)
    show wpAny _ _ (Builtin.SmallTypes.ownedTupleHandOut (.ref z) (.ref u2.objs.size) >>= _) _ _ _
    refine wpAny_bind ?_
    unfold Builtin.SmallTypes.ownedTupleHandOut
    have zlt : z < u2.objs.size := Heap.lt_size Z2
    have hz₆ : IsZipF (u2.push { cls := .type "tuple", data := .seq #[.str ⟨#[cp]⟩ s.toks, x2] }) z TI TO .ellipsis f1 := Heap.get?_push_of_some _ Z2
    refine wpAny_bind (wpAny_setField_rec hz₆ (by simp) fun h₇ hz₇ hs₇ => ?_)
    replace hz₇ : IsZipF h₇ z TI TO (rawInt u2.objs.size) f1 := hz₇
    refine wpAny_setField_rec hz₇ (by simp) fun h₈ hz₈ hs₈ => ?_
    replace hz₈ : IsZipF h₈ z TI TO (rawInt u2.objs.size) false := hz₈
    have up : ∀ c o, c ≠ z → u2.get? c = some o → h₈.get? c = some o := fun c o c1 e => hs₈.extBut _ _ c1 (hs₇.extBut _ _ c1 (Heap.get?_push_of_some _ e))
    have hT₈ : IsTupA h₈ u2.objs.size #[.str ⟨#[cp]⟩ s.toks, x2] := hs₈.extBut _ _ (Nat.ne_of_gt zlt) (hs₇.extBut _ _ (Nat.ne_of_gt zlt) (Heap.get?_push_size _ rfl))
    have hz8 : h₈.objs.size = u2.objs.size + 1 := by rw [hs₈.1, hs₇.1, Heap.size_push]
    refine wpAny_pure ⟨_, rfl, ?_⟩
    show Q (.ref u2.objs.size) _
    rw [N2] at hz₈ hT₈ hz8 ⊢
    exact hQ h₈ _ _ _ (.inr ⟨_, rfl⟩) hz₈ (up _ _ D.TOz T2) rfl (J1_2.at fun o e => up _ o D.i1z e) (J2_2.at fun o e => up _ o D.i2z e) hT₈ hz8 fun c o c1 c2 q1 q2 e => up c o c1 (K2 c o c1 c2 q1 q2 e)
  · simp only [Bool.false_eq_true, if_false]
    have K0 : ∀ c o, c ≠ z → s.heap.get? c = some o → h₁.get? c = some o := fun c o c1 e => hs₁.extBut _ _ c1 e
    have J1_0 : h₁.IsStrIter i1 "str_ascii_iterator" X t k := h1.at fun o e => K0 _ o D.i1z e
    have J2_0 : h₁.IsListIter i2 l2 k := h2.at fun o e => K0 _ o D.i2z e
    have L2_0 : h₁.IsList l2 xs2 := hl2.at fun o e => K0 _ o D.l2z e
    refine wpAny_bind ?_
    rw [← Array.forIn_toList]
    simp only [List.forIn_cons, List.forIn_nil]
    refine wpAny_bind (wpAny_bind (wpAny_holding ?_))
    show wpAny _ _ (Builtin.SmallTypes.nextOf (.ref i1) >>= _) _ _ _
    refine wpAny_bind (wpAny_nextOf_ascii_item (s := { s with heap := h₁ }) J1_0 hx1 fun g1 m1 gs1 => wpAny_pure ?_)
    refine wpAny_pure ?_
    have J1_1 : g1.IsStrIter i1 "str_ascii_iterator" X t (k + 1) := m1
    have J2_1 : g1.IsListIter i2 l2 k := J2_0.extBut gs1.extBut D.i1i2.symm
    have L2_1 : g1.IsList l2 xs2 := L2_0.extBut gs1.extBut D.l2i1
    refine wpAny_bind (wpAny_bind (wpAny_holding ?_))
    show wpAny _ _ (Builtin.SmallTypes.nextOf (.ref i2) >>= _) _ _ _
    refine wpAny_bind (wpAny_nextOf_list_item (s := { s with heap := g1, toks := s.toks + 1 }) J2_1 L2_1 hx2 fun g2 m2 gs2 => wpAny_pure ?_)
    refine wpAny_pure (wpAny_pure ?_)
    have J1_2 : g2.IsStrIter i1 "str_ascii_iterator" X t (k + 1) := J1_1.extBut gs2.extBut D.i1i2
    have J2_2 : g2.IsListIter i2 l2 (k + 1) := m2
    have L2_2 : g2.IsList l2 xs2 := L2_1.extBut gs2.extBut D.l2i2
    show wpAny _ _ (newTuple [.str ⟨#[cp]⟩ s.toks, x2] >>= _) _ _ _
    refine wpAny_bind (wpAny_newTuple ?_)
    have hsz' : g2.objs.size = s.heap.objs.size := by rw [gs2.1, gs1.1, hs₁.1]
    have hz3 : IsZipF g2 z TI TO f0 true := (gs2.extBut _ _ D.i2z.symm (gs1.extBut _ _ D.i1z.symm hz₁))
    have hk : ∀ c o, c ≠ z → c ≠ i1 → c ≠ i2 → s.heap.get? c = some o → g2.get? c = some o := fun c o c1 q1 q2 e => (gs2.extBut _ _ q2 (gs1.extBut _ _ q1 (K0 c o c1 e)))
    refine wpAny_pure ⟨_, rfl, ?_⟩
    show Q (.ref g2.objs.size) _
    have hp : IsTupA (g2.push { cls := .type "tuple", data := .seq #[.str ⟨#[cp]⟩ s.toks, x2] }) g2.objs.size #[.str ⟨#[cp]⟩ s.toks, x2] := Heap.get?_push_size _ rfl
    have hz4 : (g2.push { cls := .type "tuple", data := .seq #[.str ⟨#[cp]⟩ s.toks, x2] }).objs.size = g2.objs.size + 1 := Heap.size_push ..
    rw [hsz'] at hp hz4 ⊢
    exact hQ _ _ _ _ hf0 (Heap.get?_push_of_some _ hz3) (Heap.get?_push_of_some _ (hk _ _ D.TOz D.TOi1 D.TOi2 hTO)) hsz (J1_2.at fun o e => Heap.get?_push_of_some _ e) (J2_2.at fun o e => Heap.get?_push_of_some _ e) hp hz4 fun c o c1 c2 q1 q2 e => Heap.get?_push_of_some _ (hk c o c1 q1 q2 e)
theorem zt_next_end {z TI TO i1 i2 l2 : Addr} {k : Nat} {X : Str} {t : Tok} {xs2 : Array Value} {f0 : Value} {f1 : Bool} {arr : Array Value} {Q : Fin → Shared → Prop} (hh : A.handled = none) (D : ZA2 z TI TO i1 i2 l2 l2) (hz : IsZipF s.heap z TI TO f0 f1) (hf0 : OwnF f0) (hTI : IsTupA s.heap TI #[.ref i1, .ref i2]) (hTO : IsTupA s.heap TO arr) (hsz : arr.size = 2) (h1 : s.heap.IsStrIter i1 "str_ascii_iterator" X t k) (h2 : s.heap.IsListIter i2 l2 k) (hl2 : s.heap.IsList l2 xs2) (hx : X.cps[k]? = none)
    (hE : ∀ h' e, (∀ c o, c ≠ z → c ≠ TO → c ≠ i1 → c ≠ i2 → s.heap.get? c = some o → h'.get? c = some o) → (∃ o, h'.get? e = some o ∧ o.cls = .type "StopIteration") → E (.ref e) { s with heap := h' }) :
    wpAny (model prog w) A (Builtin.«zip.__next__» ⟨[.ref z], []⟩) Q E s := by
  show wpAny _ _ (field (.ref z) 2 >>= _) _ _ _
  refine wpAny_bind (wpAny_field hz rfl (x := .bool false) rfl ?_)
  show wpAny _ _ (field (.ref z) 3 >>= _) _ _ _
  refine wpAny_bind (wpAny_field hz rfl (x := .ref TI) rfl ?_)
  refine wpAny_bind (wpAny_seqItems hTI rfl ?_)
  show wpAny _ _ (Builtin.SmallTypes.ownedTupleIsFree (.ref z) >>= _) _ _ _
  refine wpAny_bind (owned_any hz hf0 ?_ fun h₁ hz₁ hs₁ => ?_)
  · simp only [if_true]
    refine wpAny_bind (wpAny_rule ?_)
    refine wpAny_bind (wpAny_field hz rfl (x := .ref TO) rfl ?_)
    refine wpAny_bind (wpAny_setField_rec hz (by simp) fun h₀ hz₀ hs₀ => ?_)
    replace hz₀ : IsZipF h₀ z TI TO .ellipsis f1 := hz₀
    refine wpAny_bind ?_
    simp only [List.zipIdx_cons, List.zipIdx_nil, List.forIn_cons, List.forIn_nil]
    refine wpAny_bind (wpAny_bind (wpAny_onRaise ?_))
    show wpAny _ _ (Builtin.SmallTypes.nextOf (.ref i1) >>= _) _ _ _
    refine wpAny_bind (wpAny_nextOf_ascii_end hh (h1.extBut hs₀.extBut D.i1z) hx fun h₂ e hs₂ he => ?_)
    obtain ⟨oe, hoe, hce⟩ := he
    have hz₂ : IsZipF h₂ z TI TO .ellipsis f1 := hs₂ _ _ D.i1z.symm hz₀
    have hez : e ≠ z := fun x => by subst x; rw [hz₂] at hoe; cases hoe; simp at hce
    refine wpAny_setField_rec hz₂ (by simp) fun h₃ _ hs₃ => hE h₃ e (fun c o c1 _ c3 _ x => hs₃.extBut _ _ c1 (hs₂ _ _ c3 (hs₀.extBut _ _ c1 x))) ⟨oe, hs₃.extBut _ _ hez hoe, hce⟩
  · simp only [Bool.false_eq_true, if_false]
    refine wpAny_bind ?_
    rw [← Array.forIn_toList]
    simp only [List.forIn_cons, List.forIn_nil]
    refine wpAny_bind (wpAny_bind (wpAny_holding ?_))
    show wpAny _ _ (Builtin.SmallTypes.nextOf (.ref i1) >>= _) _ _ _
    refine wpAny_bind (wpAny_nextOf_ascii_end (s := { s with heap := h₁ }) hh (h1.extBut hs₁.extBut D.i1z) hx fun h₂ e hs₂ he => ?_)
    exact hE h₂ e (fun c o c1 _ c3 _ x => hs₂ _ _ c3 (hs₁.extBut _ _ c1 x)) he
theorem zt_pyNext_item {z TI TO i1 i2 l2 : Addr} {k : Nat} {X : Str} {t : Tok} {xs2 : Array Value} {f0 : Value} {f1 : Bool} {arr : Array Value} {cp : Nat} {x2 : Value} {Q : Option Value → Shared → Prop} (D : ZA2 z TI TO i1 i2 l2 l2) (hz : IsZipF s.heap z TI TO f0 f1) (hf0 : OwnF f0) (hTI : IsTupA s.heap TI #[.ref i1, .ref i2]) (hTO : IsTupA s.heap TO arr) (hsz : arr.size = 2) (h1 : s.heap.IsStrIter i1 "str_ascii_iterator" X t k) (h2 : s.heap.IsListIter i2 l2 k) (hl2 : s.heap.IsList l2 xs2) (hx1 : X.cps[k]? = some cp) (hx2 : xs2[k]? = some x2)
    (hQ : ∀ h' f0' f1' arr', OwnF f0' → IsZipF h' z TI TO f0' f1' → IsTupA h' TO arr' → arr'.size = 2 → h'.IsStrIter i1 "str_ascii_iterator" X t (k + 1) → h'.IsListIter i2 l2 (k + 1) → IsTupA h' s.heap.objs.size #[.str ⟨#[cp]⟩ s.toks, x2] → h'.objs.size = s.heap.objs.size + 1 → (∀ c o, c ≠ z → c ≠ TO → c ≠ i1 → c ≠ i2 → s.heap.get? c = some o → h'.get? c = some o) → Q (some (.ref s.heap.objs.size)) { s with heap := h', toks := s.toks + 1 }) : wpAny (model prog w) A (pyNext (.ref z)) Q E s := by
  have hT : s.TypeIs (.ref z) "zip" := ⟨_, hz, rfl⟩
  unfold pyNext
  exact wpAny_bind (wpAny_attempt (wpAny_callSpecial?_slot (name := Str.ofString "__next__") hT F.slot_zip_next
    (wpAny_call_entry F.slot_zip_next hT F.entry_zip_next
      (zt_next_item D hz hf0 hTI hTO hsz h1 h2 hl2 hx1 hx2 fun h' b0 b1 b2 b3 b4 b5 b6 b7 b8 b9 b10 b11 => wpAny_pure (hQ h' b0 b1 b2 b3 b4 b5 b6 b7 b8 b9 b10 b11)) (F.args_zip_next_1 _))))
theorem zt_pyNext_end {z TI TO i1 i2 l2 : Addr} {k : Nat} {X : Str} {t : Tok} {xs2 : Array Value} {f0 : Value} {f1 : Bool} {arr : Array Value} {Q : Option Value → Shared → Prop} (hh : A.handled = none) (D : ZA2 z TI TO i1 i2 l2 l2) (hz : IsZipF s.heap z TI TO f0 f1) (hf0 : OwnF f0) (hTI : IsTupA s.heap TI #[.ref i1, .ref i2]) (hTO : IsTupA s.heap TO arr) (hsz : arr.size = 2) (h1 : s.heap.IsStrIter i1 "str_ascii_iterator" X t k) (h2 : s.heap.IsListIter i2 l2 k) (hl2 : s.heap.IsList l2 xs2) (hx : X.cps[k]? = none)
    (hQ : ∀ h', (∀ c o, c ≠ z → c ≠ TO → c ≠ i1 → c ≠ i2 → s.heap.get? c = some o → h'.get? c = some o) → Q none { s with heap := h' }) : wpAny (model prog w) A (pyNext (.ref z)) Q E s := by
  have hT : s.TypeIs (.ref z) "zip" := ⟨_, hz, rfl⟩
  unfold pyNext
  refine wpAny_bind (wpAny_attempt (wpAny_callSpecial?_slot (name := Str.ofString "__next__") hT F.slot_zip_next
    (wpAny_call_entry F.slot_zip_next hT F.entry_zip_next (zt_next_end hh D hz hf0 hTI hTO hsz h1 h2 hl2 hx fun h' e hk he => ?_) (F.args_zip_next_1 _))))
  obtain ⟨o, ho, hc⟩ := he
  refine wpAny_bind (wpAny_isInstance (T := "StopIteration") (b := true) ⟨o, ho, hc⟩ isSubtype_stop ?_)
  exact wpAny_pure (hQ _ hk)
end
end Hs
namespace Hs
open PySem PySem.Spec PyProof.Rows L2
theorem letgo_any {prog : Program} {w : World} {A : Around} {E : Value → Shared → Prop} {s : Shared} {elts : List Expr} {kk : Nat} {pos : Pos} {z TI TO T : Addr} {f0 : Value} {f1 : Bool} {Q : Unit → Shared → Prop} (hz : IsZipF s.heap z TI TO f0 f1) (hf : OwnF f0)
    (hQ : ∀ h' f', OwnF f' → IsZipF h' z TI TO f' f1 → Heap.SameBut z s.heap h' → Q () { s with heap := h' }) : wpAny (model prog w) A (letOwnedTupleGo (.Tuple elts kk pos) (.ref z) (.ref T)) Q E s := by
  unfold letOwnedTupleGo
  refine wpAny_bind (wpAny_load hz ?_)
  by_cases hc : (["enumerate", "zip", "dict_itemiterator", "dict_reverseitemiterator", "odict_iterator", "itertools.zip_longest", "itertools.pairwise"].contains "zip" && (#[f0, .bool f1, .bool false, .ref TI, .ref TO] : Array Value)[0]? == some (rawInt T)) = true
  · refine PySem.W.KFB.if_so hc ?_
    refine wpAny_bind (wpAny_rule ?_)
    show wpAny _ _ (setField (.ref z) 0 .none) Q E s
    exact wpAny_setField_rec hz (by simp) fun h' hz' hs' => hQ h' .none (.inl rfl) hz' hs'
  · refine PySem.W.KFB.if_not (Bool.eq_false_iff.mpr hc) ?_
    exact wpAny_pure (hQ s.heap f0 hf hz ⟨rfl, fun _ _ => rfl⟩)
end Hs
namespace Hs
open PySem PySem.Spec PyProof.Rows L2
abbrev zttH1 (h : Heap) (X : Str) (t : Tok) : Heap := h.push { cls := .type "str_ascii_iterator", data := .fields #[.str X t, .int 0 0] }
abbrev zttH2 (h : Heap) (X : Str) (t : Tok) (l2 : Addr) : Heap := (zttH1 h X t).push { cls := .type "list_iterator", data := .fields #[.ref l2, .int 0 0] }
abbrev zttTI (h : Heap) (X : Str) (t : Tok) (l2 : Addr) : Heap := (zttH2 h X t l2).push { cls := .type "tuple", data := .seq #[.ref h.objs.size, .ref (zttH1 h X t).objs.size] }
abbrev zttTO (h : Heap) (X : Str) (t : Tok) (l2 : Addr) : Heap := (zttTI h X t l2).push { cls := .type "tuple", data := .seq #[.none, .none] }
abbrev zttZ (h : Heap) (X : Str) (t : Tok) (l2 : Addr) : Heap := (zttTO h X t l2).push { cls := .type "zip", data := .fields #[.none, .bool false, .bool false, .ref (zttH2 h X t l2).objs.size, .ref (zttTI h X t l2).objs.size] }
theorem meets_zt_new (X : Str) (t : Tok) (l2 : Addr) (xs2 : Array Value) :
    Meets (Builtin.«zip.__new__» ⟨[.type "zip", .str X t, .ref l2], []⟩) (fun _ R s => X.cps.all (· < 128) = true ∧ s.heap.IsList l2 xs2 ∧
      R (.ok (.ret (.ref (zttTO s.heap X t l2).objs.size))) { s with heap := zttZ s.heap X t l2 }) :=
  .of_wp fun prog w A R s h => by
    obtain ⟨hp, g, d, tk, os⟩ := s; obtain ⟨ha, hl2, h⟩ := h
    have hsub := sub_zip
    have hL2 : Heap.IsList (Shared.heap ⟨(zttH1 hp X t), g, d, tk, os⟩) l2 xs2 := Heap.IsList.push (hl2) _
    wp_walk using wpAny_pyIter_ascii ha, wpAny_pyIter_list hL2
    exact ⟨_, rfl, h⟩
section
variable {prog : Program} {w : World} {A : Around} {E : Value → Shared → Prop} {s : Shared}
theorem call_zt {X : Str} {t : Tok} {l2 : Addr} {xs2 : Array Value} {Q : Value → Shared → Prop} (ha : X.cps.all (· < 128) = true) (hl2 : s.heap.IsList l2 xs2)
    (h : ∀ h', IsZipF h' (s.heap.objs.size + 4) (s.heap.objs.size + 2) (s.heap.objs.size + 3) .none false → IsTupA h' (s.heap.objs.size + 2) #[.ref s.heap.objs.size, .ref (s.heap.objs.size + 1)] → IsTupA h' (s.heap.objs.size + 3) #[.none, .none] → h'.IsStrIter s.heap.objs.size "str_ascii_iterator" X t 0 → h'.IsListIter (s.heap.objs.size + 1) l2 0 → h'.objs.size = (s.heap.objs.size + 5) → (∀ c o, s.heap.get? c = some o → h'.get? c = some o) → Q (.ref (s.heap.objs.size + 4)) { s with heap := h' }) :
    wpAny (model prog w) A (call (.type "zip") [.str X t, .ref l2]) Q E s := by
  refine callType_new F.called_zip (by decide) (F.typeCall_zip_2 _ _) (F.newCall_zip_2 _ _) (fun obj => F.args_object_init_3 obj _ _) F.entry_zip_new (meets_zt_new X t l2 xs2) ⟨ha, hl2, ?_⟩
  have z1 : (zttH1 s.heap X t).objs.size = (s.heap.objs.size + 1) := Heap.size_push ..
  have z2 : (zttH2 s.heap X t l2).objs.size = (s.heap.objs.size + 2) := by rw [Heap.size_push, z1]
  have z3 : (zttTI s.heap X t l2).objs.size = (s.heap.objs.size + 3) := by rw [Heap.size_push, z2]
  have z4 : (zttTO s.heap X t l2).objs.size = (s.heap.objs.size + 4) := by rw [Heap.size_push, z3]
  have z5 : (zttZ s.heap X t l2).objs.size = (s.heap.objs.size + 5) := by rw [Heap.size_push, z4]
  have g0 : (zttZ s.heap X t l2).get? s.heap.objs.size = some _ := Heap.get?_push_of_some _ (Heap.get?_push_of_some _ (Heap.get?_push_of_some _ (Heap.get?_push_of_some _ (Heap.get?_push_size _ rfl))))
  have g1 : (zttZ s.heap X t l2).get? (zttH1 s.heap X t).objs.size = some _ := Heap.get?_push_of_some _ (Heap.get?_push_of_some _ (Heap.get?_push_of_some _ (Heap.get?_push_size _ rfl)))
  have g2 : (zttZ s.heap X t l2).get? (zttH2 s.heap X t l2).objs.size = some _ := Heap.get?_push_of_some _ (Heap.get?_push_of_some _ (Heap.get?_push_size _ rfl))
  have g3 : (zttZ s.heap X t l2).get? (zttTI s.heap X t l2).objs.size = some _ := Heap.get?_push_of_some _ (Heap.get?_push_size _ rfl)
  have g4 : (zttZ s.heap X t l2).get? (zttTO s.heap X t l2).objs.size = some _ := Heap.get?_push_size _ rfl
  show _ ∧ _
  rw [z2, z3, z4] at g4
  rw [z1, z2] at g2
  rw [z3] at g3
  rw [z1] at g1
  rw [z4]
  exact ⟨⟨_, g4, rfl⟩, h _ g4 g2 g3 ⟨_, g0, rfl, rfl⟩ ⟨_, g1, rfl, rfl⟩ z5 fun c o x => Heap.get?_push_of_some _ (Heap.get?_push_of_some _ (Heap.get?_push_of_some _ (Heap.get?_push_of_some _ (Heap.get?_push_of_some _ (x)))))⟩
end
/-- the list as it stands at each turn, a sign and its item in a new tuple -/
def ItST (K : PySem.W.Frag) (X : Str) (a2 : Addr) : It :=
  ⟨fun i H => ∃ (xs2 : List V) (c : Nat) (x2 : V), SqL K H a2 xs2 ∧ X.cps[i]? = some c ∧ xs2[i]? = some x2,
    fun i H v H' => ∃ (T : Addr) (c : Nat) (x2 : V), v = .ref T ∧ H T = none ∧ H' = upd H T (.tup [.str ⟨#[c]⟩, x2]) ∧ X.cps[i]? = some c ∧ (∀ ys, SqL K H a2 ys → ys[i]? = some x2),
    fun i H => ∃ (xs2 : List V), SqL K H a2 xs2 ∧ X.cps.size ≤ i⟩
theorem turn_ST {P : Program} {w : World} {K : PySem.W.Frag} {elts : List Expr} {kk : Nat} {tpos : Pos} {z TI TO i1 i2 a2 : Addr} {Y : Str} {t : Tok} (D : ZA2 z TI TO i1 i2 a2 a2) : Turn P w K (.Tuple elts kk tpos) (ItST K Y a2) [z, TI, TO, i1, i2] z (fun i h => ∃ f0 f1 arr, OwnF f0 ∧ IsZipF h z TI TO f0 f1 ∧ IsTupA h TI #[.ref i1, .ref i2] ∧ IsTupA h TO arr ∧ arr.size = 2 ∧ h.IsStrIter i1 "str_ascii_iterator" Y t i ∧ h.IsListIter i2 a2 i) where
  mem := by simp
  obj := fun i h st c hc => by
    obtain ⟨f0, f1, arr, hf0, hz, hTI, hTO, hsz, ⟨o1, e1, _, d1⟩, ⟨o2, e2, _, d2⟩⟩ := st
    have e' : c = z ∨ c = TI ∨ c = TO ∨ c = i1 ∨ c = i2 := by simpa using hc
    rcases e' with q | q | q | q | q
    · rw [q]; exact ⟨_, hz, fun v q => nomatch q⟩
    · rw [q]; exact ⟨_, hTI, fun v q => nomatch q⟩
    · rw [q]; exact ⟨_, hTO, fun v q => nomatch q⟩
    · rw [q]; exact ⟨o1, e1, fun v q => by rw [d1] at q; cases q⟩
    · rw [q]; exact ⟨o2, e2, fun v q => by rw [d2] at q; cases q⟩
  keep := fun i h h' st k => by
    obtain ⟨f0, f1, arr, hf0, hz, hTI, hTO, hsz, h1, h2⟩ := st
    exact ⟨f0, f1, arr, hf0, k z (by simp) _ hz, k TI (by simp) _ hTI, k TO (by simp) _ hTO, hsz, h1.at fun o q => k i1 (by simp) o q, h2.at fun o q => k i2 (by simp) o q⟩
  item := by
    intro X hP hw hK hc i pins s σ H E I hf st hg
    subst hP hw hK
    obtain ⟨f0, f1, arr, hf0, hz, hTI, hTO, hsz, h1, h2⟩ := st
    obtain ⟨xs2, c1, x2, hq2, hx1, hx2⟩ := hg
    obtain ⟨its2, rv2, p2, _⟩ := I.list hq2
    obtain ⟨w2, hw2, rw2⟩ := rv2.get hx2
    have hzl : z < s.heap.objs.size := Heap.lt_size hz
    refine zt_pyNext_item D hz hf0 hTI hTO hsz h1 h2 p2.isList hx1 (by simpa using hw2) fun h3 f3 f1' arr' hf3 hz3 TO3 hsz' h13 h23 hT3 hsz2 hk3 => ?_
    refine ⟨_, rfl, letgo_any (s := { s with heap := h3, toks := s.toks + 1 }) hz3 hf3 fun h' f0' hf0' hz' sb => ?_⟩
    have TO' : IsTupA h' TO arr' := (sb.2 _ D.TOz).trans TO3
    have h1' := h13.at fun o q => (sb.2 _ D.i1z).trans q
    have h2' := h23.at fun o q => (sb.2 _ D.i2z).trans q
    have hT : IsTupA h' s.heap.objs.size _ := (sb.2 _ (Nat.ne_of_gt hzl)).trans hT3
    have hk : ∀ c o, c ≠ z → c ≠ TO → c ≠ i1 → c ≠ i2 → s.heap.get? c = some o → h'.get? c = some o := fun c o c1 c2 c3 c4 e => (sb.2 _ c1).trans (hk3 c o c1 c2 c3 c4 e)
    have new : ObjOk X.prog X.w (upd H s.heap.objs.size (.tup [.str ⟨#[c1]⟩, x2])) h' s.heap.objs.size (.tup [.str ⟨#[c1]⟩, x2]) := ⟨by show 2 ≤ sizeLine; decide, [.str ⟨#[c1]⟩ s.toks, w2], .cons ⟨_, rfl⟩ (.cons rw2 (.nil)), ⟨_, hT, rfl, _, rfl⟩⟩
    have I1 : Inv X pins σ (upd H s.heap.objs.size (.tup [.str ⟨#[c1]⟩, x2])) { s with heap := h', toks := s.toks + 1 } :=
      I.turnedNew (t' := s.toks + 1) (ch := [z, TI, TO, i1, i2]) (fun c o hb q => hk c o (fun q' => hb (by simp [q'])) (fun q' => hb (by simp [q'])) (fun q' => hb (by simp [q'])) (fun q' => hb (by simp [q'])) q) hf (Nat.le_refl _) new
    refine ⟨.ref s.heap.objs.size, _, I1, rfl, ⟨_, c1, x2, rfl, I.hok.fresh (Nat.le_refl _), rfl, hx1, fun l hl => by rw [I.list_inj hl hq2]; exact hx2⟩, ⟨f0', f1', arr', hf0', hz', ?_, TO', hsz', h1', h2'⟩, fun c hcm => ?_⟩
    · exact hk _ _ D.TIz D.TITO D.TIi1 D.TIi2 hTI
    · have hlt : c < s.heap.objs.size := by
        have e' : c = z ∨ c = TI ∨ c = TO ∨ c = i1 ∨ c = i2 := by simpa using hcm
        rcases e' with q | q | q | q | q
        · rw [q]; exact hzl
        · rw [q]; exact Heap.lt_size hTI
        · rw [q]; exact Heap.lt_size hTO
        · rw [q]; obtain ⟨_, e1, _⟩ := h1; exact Heap.lt_size e1
        · rw [q]; obtain ⟨_, e1, _⟩ := h2; exact Heap.lt_size e1
      rw [upd_ne (Nat.ne_of_lt hlt)]
      exact (hf c hcm).1
  done := by
    intro X hP hw hK hc i pins s σ H E I hf st hg
    subst hP hw hK
    obtain ⟨f0, f1, arr, hf0, hz, hTI, hTO, hsz, h1, h2⟩ := st
    obtain ⟨xs2, hq2, hend⟩ := hg
    obtain ⟨its2, rv2, p2, _⟩ := I.list hq2
    exact zt_pyNext_end (I.ok.hd hc) D hz hf0 hTI hTO hsz h1 h2 p2.isList (Array.getElem?_eq_none hend) fun h' hk => ⟨rfl, I.turnedL (t' := s.toks) (ch := [z, TI, TO, i1, i2]) (fun c o hb q => hk c o (fun q' => hb (by simp [q'])) (fun q' => hb (by simp [q'])) (fun q' => hb (by simp [q'])) (fun q' => hb (by simp [q'])) q) hf⟩
  self := fun A i s Q E st h => by
    obtain ⟨f0, f1, arr, hf0, hz, _⟩ := st
    exact pyIter_zipF hz h
theorem neA {a b : Nat} (h : a ≠ b) : (a : Addr) ≠ b := h
theorem apartT (I a2 : Nat) (h2 : a2 < I) : ZA2 (I + 4) (I + 2) (I + 3) I (I + 1) a2 a2 := by
  constructor <;> (refine neA ?_; omega)
def iZipT (K : PySem.W.Frag) (ta : TA) : TI := fun σ H R => ta σ H fun vs H1 => ∃ (z : Str) (b : Addr) (ys : List V), vs = [.str z, .ref b] ∧ z.cps.all (· < 128) = true ∧ SqL K H1 b ys ∧ R (ItST K z b) H1
theorem pi_zipT {X : Cx} {e e2 : Expr} {ta : TA} {p pos tpos : Pos} {elts : List Expr} {kk : Nat} (hg : Gl X "zip") (hm : X.mg "zip" = none) (ha : PA X [e, e2] ta)
    (hs : starEach [e, e2] X.env = (false, eval e X.env) :: starEach [e2] X.env := by rfl) (hpl : (backTo pos (starEach [e2] X.env)).any (·.1) = false := by rfl) :
    PI X (.Tuple elts kk tpos) (.Call (.Name "zip" p) [e, e2] [] pos) (iZipT X.K ta) := by
  refine ⟨fun pins s σ H R I h => ?_⟩
  refine Call_ (ld_blt I hg hm PyProof.Rows.boot_zip (PyProof.Rows.callWith_type1 (thn (ha.run pos pins s σ H _ I h) fun us s1 ⟨vs, H1, I1, r1, z, b, ys, ev, hz0, hq2, q⟩ => ?_) hs hpl))
  subst ev
  cases r1 with
  | cons ra rt =>
    obtain ⟨t, rfl⟩ := ra
    cases rt with
    | cons rb rt2 =>
      cases rt2
      cases rb
      obtain ⟨its2, rv2, p2, _⟩ := I1.list hq2
      refine call_zt hz0 p2.isList fun h' hz hTI hTO h1 h2 hsz hk => pyIter_zipF hz ?_
      have I2 : Inv X pins σ H1 { s1 with heap := h' } := I1.kept (t' := s1.toks) hk
      refine ⟨s1.heap.objs.size + 4, [s1.heap.objs.size + 4, s1.heap.objs.size + 2, s1.heap.objs.size + 3, s1.heap.objs.size, s1.heap.objs.size + 1], _, _, H1, rfl, I2, turn_ST (apartT s1.heap.objs.size b p2.lt), ⟨_, _, _, .inl rfl, hz, hTI, hTO, rfl, h1, h2⟩, fun c hcm => ?_, q⟩
      have hle : s1.heap.objs.size ≤ c := by
        simp only [List.mem_cons, List.not_mem_nil, or_false] at hcm
        rcases hcm with rfl | rfl | rfl | rfl | rfl <;> first | exact Nat.le_refl _ | exact Nat.le_add_right _ _
      exact I1.fpOk hle (I1.hok.fresh hle)
theorem walk_ST {K : PySem.W.Frag} {z : Str} {b : Addr} {ys : List V} (hl : z.cps.size = ys.length) : Walk (ItST K z b) ys.length (fun H => SqL K H b ys) (fun i H v H' => ∃ (T : Addr) (c : Nat) (y : V), v = .ref T ∧ H T = none ∧ H' = upd H T (.tup [.str ⟨#[c]⟩, y]) ∧ z.cps[i]? = some c ∧ ys[i]? = some y) :=
  ⟨fun i H hi h => ⟨ys, _, _, h, Array.getElem?_eq_getElem (by omega), List.getElem?_eq_getElem hi⟩, fun H h => ⟨ys, h, Nat.le_of_eq hl⟩, fun i H v H' _ h ⟨T, c, y, e1, e2, e3, e4, e5⟩ => ⟨T, c, y, e1, e2, e3, e4, e5 ys h⟩⟩
end Hs
namespace Hs
open PySem PySem.Spec PyProof.Rows L2 Evl
section
variable {prog : Program} {w : World} {A : Around} {E : Value → Shared → Prop} {s : Shared}
/-- x, *ys = a list that is not empty: its first item, the rest as a new list -/
theorem star_lst {t : Addr} {its : Array Value} {x : Value} {ys : List Value} {Qd : List Value → Shared → Prop} (hT : s.heap.IsList t its) (hA : A.handled = none) (e : its.toList = x :: ys) (hz : its.size ≤ 16384)
    (k : ∀ (g : Heap) (tk : Tok) (d : Addr), (∀ b o, s.heap.get? b = some o → g.get? b = some o) → s.heap.get? d = none → g.get? d = some (seqObj "list" ys.toArray 0) → Qd [x, .ref d] { s with heap := g, toks := tk }) :
    wpAny (model prog w) A (unpackItems (.ref t) 2 (some 1)) Qd E s := by
  have nt : t ≠ s.heap.objs.size := let ⟨_, q, _⟩ := hT; Nat.ne_of_lt (Heap.lt_size q)
  have sz : its.size = ys.length + 1 := by
    rw [← Array.length_toList, e, List.length_cons]
  unfold unpackItems
  refine wpAny_bind ?_
  unfold notIterableAtAll
  refine wpAny_bind (wpAny_specialOf hT.typeIs slot_list_iter.lookup (wpAny_pure ?_))
  simp only [Bool.false_eq_true, if_false]
  refine wpAny_bind (wpAny_holding (wpAny_pyIter_list hT ?_))
  refine wpAny_bind (wpAny_holding (PySem.W.kun_draw nt 1 0 _ _ ?first (hT.push _) (by omega) fun g1 i1 b1 => ?_))
  case first => exact ⟨_, Heap.get?_push_size _ rfl, rfl, rfl⟩
  have e1 : (its.toList.drop 0).take 1 = [x] := by
    rw [e]
    rfl
  rw [e1]
  have T1 : g1.IsList t its := (hT.push _).extBut b1.extBut nt
  obtain ⟨oi, hoi⟩ : ∃ o, g1.get? s.heap.objs.size = some o := let ⟨o, q, _⟩ := i1; ⟨o, q⟩
  obtain ⟨ot, hot⟩ : ∃ o, g1.get? t = some o := let ⟨o, q, _⟩ := T1; ⟨o, q⟩
  have W := Walks.list (prog := prog) (w := w) (A := A.in1) hA s.heap.objs.size t nt its
  rw [if_neg (show ¬ ([x] : List Value).length < 1 from Nat.lt_irrefl 1)]
  refine wpAny_bind (wpAny_holding (PySem.W.kun_collect (s := { s with heap := g1 }) (T := "list_iterator") (.inr (.inr (.inl rfl))) W (fun _ _ st => st.1.typeIs) (k := 1) (by omega) ⟨i1, T1⟩ (Heap.lt_size hoi) (Heap.lt_size hot) (fun g2 tk kp => ?_) (by rw [sizeLine_eq]; omega)))
  have e2 : its.toList.drop 1 = ys := by rw [e] <;> rfl
  rw [e2]
  have hlt : ¬ ys.length < 2 - 1 - 1 := Nat.not_lt_zero _
  rw [if_neg hlt]
  have e3 : ys.take (ys.length - (2 - 1 - 1)) = ys := List.take_of_length_le (Nat.le_refl _)
  have e4 : ys.drop (ys.length - (2 - 1 - 1)) = [] := List.drop_eq_nil_of_le (Nat.le_refl _)
  rw [e3, e4]
  have old : ∀ b o, s.heap.get? b = some o → g2.get? b = some o := fun b o hb => by
    have n1 : b ≠ s.heap.objs.size := Nat.ne_of_lt (Heap.lt_size hb)
    exact kp b o n1 (b1.extBut b o n1 (Heap.get?_push_of_some _ hb))
  refine wpAny_bind (wpAny_newList ?_ ?_)
  · refine wpAny_pure (k _ tk g2.objs.size (fun b o hb => Heap.get?_push_of_some _ (old b o hb)) ?_ (Heap.get?_push_size _ rfl))
    cases q : s.heap.get? g2.objs.size with
    | none => rfl
    | some o => exact absurd (Heap.lt_size (old _ _ q)) (Nat.lt_irrefl _)
  · have z : ys.length ≤ sizeLine := by
      rw [sizeLine_eq]
      omega
    exact z
end
/-- x, *ys = a list -/
def gStarL (K : PySem.W.Frag) (g1 g2 : TG) : TG := fun v σ H Q => ∃ a x xs, v = .ref a ∧ SqL K H a (x :: xs) ∧ xs.length ≤ 16000 ∧ ∀ d, H d = none → g1 x σ (upd H d (.lst xs)) fun σ1 H1 => g2 (.ref d) σ1 H1 Q
section
variable {X : Cx}
theorem pg_starL {e1 e2 : Expr} {p p2 : Pos} {k : Nat} {g1 g2 : TG} (hc : X.calm = true) (h1 : PG X e1 g1) (h2 : PG X e2 g2) (hs : assignEach [e1, .Starred e2 p2] X.env = [(false, assign e1 X.env), (true, assign e2 X.env)] := by rfl) : PG X (.Tuple [e1, .Starred e2 p2] k p) (gStarL X.K g1 g2) := by
  refine ⟨fun pins s σ H v u Q I r hw => ?_⟩
  obtain ⟨a, x, xs, rfl, hq, hl, hw⟩ := hw
  cases r
  obtain ⟨its, rv, ht, hz⟩ := I.list hq
  rw [PyProof.Rows.assign_Tuple]
  refine wpAny_bind (wpAny_standAt ?_)
  unfold unpack
  rw [hs]
  cases rv with
  | @cons _ u1 _ us r1 rs =>
    have lz : us.length ≤ 16000 := by rw [← rs.length]; exact hl
    refine wpAny_bind (wpAny_holding (star_lst (x := u1) (ys := us) ht.isList (I.ok.hd hc) rfl (by rw [List.size_toArray, List.length_cons]; omega) fun g tk d old hd0 hd => ?_))
    have hn : H d = none := I.hok.gone hd0
    have I1 : Inv X pins σ (upd H d (.lst xs)) { s with heap := g, toks := tk } := I.laidN (t' := tk) old hd0 hn ⟨by rw [sizeLine_eq]; omega, us, 0, rs, hd⟩
    refine assignInOrder_cons (wpAny_mono (h1.run pins _ σ _ x u1 _ I1 r1 (hw d hn)) (fun _ s2 h2' => ?_) fun _ _ z => z)
    obtain ⟨σ2, H2, I2, q2⟩ := h2'
    refine assignInOrder_cons (wpAny_mono (h2.run pins s2 σ2 H2 (.ref d) (.ref d) Q I2 rfl q2) (fun _ s3 h3 => ?_) fun _ _ z => z)
    exact assignInOrder_nil h3
end
end Hs
namespace Hs
open PySem PySem.Spec PyProof.Rows L2 Evl
/-! ### d.get(z), d a dict of the written part with texts as keys -/
def tKGet (K : PySem.W.Frag) (d : Addr) (td ty : TE) : TE := fun σ H Q => td σ H fun x H1 => x = .ref d ∧ ty σ H1 fun y H2 => ∃ (z : Str) (r : Option Value) (v0 : V), y = .str z ∧ PySem.W.nsIn K d z = some r ∧ RelV v0 (r.getD .none) ∧ Q v0 H2
theorem pe_kget {X : Cx} {d : Addr} {es : Array DictEntry} {n : Nat} {o e : Expr} {apos cpos : Pos} {td ty : TE} (D : KDict X.K X.w d es n) (ho : PE X o td) (he : PE X e ty) (m : M1 X o "get" apos e cpos) : PE X (.Call (.Attribute o "get" apos) [e] [] cpos) (tKGet X.K d td ty) := by
  refine ⟨fun pins s σ H Q I h => ?_⟩
  refine wpAny_Call_method m.base m.few m.line PySem.F.plainAttrs_dict PySem.F.slot_dict_get PySem.F.type_dict_get (thn (ho.run pins s σ H _ I h) fun u s1 ⟨x, H1, I1, rx, ex, q1⟩ => ?_)
  subst ex
  obtain rfl : u = Value.ref d := rx
  have hm := PySem.W.mapOf_K (prog := X.prog) (w := X.w) I1.kIn D.at_ D.lit
  refine ⟨hm.typeIs, hm.noDict, ?_⟩
  rw [m.trees]
  refine Calls.callWith_builtin rfl (Calls.evalArgs_plain (Calls.spliced_cons (thn (he.run pins s1 σ H1 _ I1 q1) fun iv s2 ⟨y, H2, I2, ry, z, r, v0, ey, ez, rv, q2⟩ => Calls.spliced_nil ?_)))
  subst ey
  obtain ⟨t, rfl⟩ := ry
  have hm2 := PySem.W.mapOf_K (prog := X.prog) (w := X.w) I2.kIn D.at_ D.lit
  refine call_meetsIn PySem.F.slot_dict_get hm2.typeIs PySem.F.entry_dict_get (PySem.F.args_dict_get_2 _ _) (meets_dict_get (PySem.strKind X.prog X.w) d (PySem.strKind_is X.prog X.w z t) D.low) ⟨_, hm2, ?_⟩
  rw [PySem.W.find_K D.at_ ez]
  exact ⟨v0, H2, I2.tok _, rv, q2⟩
end Hs
namespace Hs
open PySem PySem.Spec PyProof.Rows L2 Evl
/-! ### [e for c, y in zip(text, list)] -/
theorem el_lcZT {K : PySem.W.Frag} {σ : L2.St} {H : Hp} {ta tb te : TE} {fm : Str} {b : Addr} {ws : List V} {i j : Nat} {vs : List Nat} (v : Nat → V) (ha : Ev ta σ H (.str fm)) (hb : Ev tb σ H (.ref b)) (hf : fm.cps.all (· < 128) = true) (hq : SqL K H b ws) (hl : fm.cps.size = ws.length) (hz : ws.length ≤ 40000)
    (hw : ∀ x y, wipe (((wipe σ vs).set i (some x)).set j (some y)) vs = wipe σ vs)
    (he : ∀ (k c : Nat) (y : V) H1, Ex H H1 → fm.cps[k]? = some c → ws[k]? = some y → Ev te (((wipe σ vs).set i (some (.str ⟨#[c]⟩))).set j (some y)) H1 (v k)) :
    EvL (tLc (iZipT K (tCons ta (tCons tb tNil))) (gTup K 2 (gCons (gName i) (gCons (gName j) gNil))) tYes te vs) σ H (given ws.length (fun _ => true) v) :=
  fun H0 e Q q => ha H0 e _ fun H1 e1 => hb H1 (e.trans e1) _ fun H2 e2 => ⟨fm, b, ws, rfl, hf, ex_l ((e.trans e1).trans e2) hq, fun Dl hD =>
    lc_it (walk_ST hl) (Cw H2 (fun _ => true) v Dl) ⟨hD, Ex.new hD, upd_same⟩ (fun _ H' _ p => ex_l (((e.trans e1).trans e2).trans p.2.1) hq) (fun k x H3 H4 hk p y => by
      obtain ⟨T, c, y, rfl, hT, rfl, hc, hy⟩ := y
      have eT := Ex.new (o := .tup [.str ⟨#[c]⟩, y]) hT
      have p' : Cw H2 (fun _ => true) v Dl k (upd H3 T (.tup [.str ⟨#[c]⟩, y])) := ⟨p.1, p.2.1.trans eT, eT _ _ p.2.2⟩
      refine ⟨T, _, rfl, st_of upd_same, rfl, ?_⟩
      exact ⟨_, _, rfl, _, _, rfl, rfl, hw _ _, cw_turn p' (by omega) (fun H1 _ Q q => q H1 (Ex.refl H1)) (fun _ => he k c y H2 ((e.trans e1).trans e2) hc hy)⟩)
      (fun H' p => q Dl H' (fresh_back (e1.trans e2) p.1) ((e1.trans e2).trans p.2.1) p.2.2)⟩
end Hs
namespace Hs
open PySem PySem.Spec PyProof.Rows L2 Evl
/-! ### a row read: any row -/
theorem sp_tl : TL.tl (" " : Str) = 32 :: [] := by decide +kernel
theorem sp_kind : (" " : Str).cps.all (· < 256) = true := by decide +kernel
theorem joinL_mem {s : List Nat} {c : Nat} : ∀ {ps : List (List Nat)} {p : List Nat}, p ∈ ps → c ∈ p → c ∈ TL.joinL s ps
  | [q], p, h, hc => by
    rw [List.mem_singleton.mp h] at hc
    exact hc
  | q :: r :: t, p, h, hc => by
    rcases List.mem_cons.mp h with rfl | h
    · exact List.mem_append_left _ hc
    · exact List.mem_append_right _ (List.mem_append_right _ (joinL_mem (ps := r :: t) h hc))
theorem joinL_len1 {s : List Nat} (hs : 1 ≤ s.length) : ∀ {ps : List (List Nat)}, ps ≠ [] → ps.length ≤ (TL.joinL s ps).length + 1 ∧ ∀ p ∈ ps, p.length ≤ (TL.joinL s ps).length
  | [], h => absurd rfl h
  | [q], _ => ⟨by simp, fun p hp => by
    rw [List.mem_singleton.mp hp]
    exact Nat.le_refl _⟩
  | q :: r :: t, _ => by
    obtain ⟨h1, h2⟩ := joinL_len1 hs (ps := r :: t) (by simp)
    have e : (TL.joinL s (q :: r :: t)).length = q.length + (s.length + (TL.joinL s (r :: t)).length) := by
      show (q ++ (s ++ TL.joinL s (r :: t))).length = _
      rw [List.length_append, List.length_append]
    rw [e]
    refine ⟨by rw [List.length_cons]; omega, fun p hp => ?_⟩
    rcases List.mem_cons.mp hp with rfl | hp
    · omega
    · have := h2 p hp
      omega
theorem split_ne (x y : Str) : Txt.split x y ≠ [] := fun h => by
  unfold Txt.split Builtin.Str.partsBetween at h
  generalize Builtin.Str.occurrences x y 0 x.length (x.length + 1) = cuts at h
  cases cuts <;> (simp at h <;> split at h <;> simp at h)
theorem tl_split (x y : Str) : TL.tl x = TL.joinL (TL.tl y) ((Txt.split x y).map TL.tl) := by
  have z := congrArg TL.tl (StrLaws.join_split x y)
  rw [TL.tl_join] at z
  exact z.symm
theorem asc_split {x y : Str} (h : Asc x) (hy : 1 ≤ y.length) : (∀ w ∈ Txt.split x y, Asc w) ∧ (Txt.split x y).length ≤ 15001 := by
  have e := tl_split x y
  have hl := joinL_len1 (s := TL.tl y) (by rw [← TL.len_tl]; exact hy) (ps := (Txt.split x y).map TL.tl) (fun z => split_ne x y (List.map_eq_nil_iff.mp z))
  rw [← e] at hl
  have hx := h.2
  rw [TL.len_tl] at hx
  refine ⟨fun w hw => ⟨fun c hc => h.1 c ?_, ?_⟩, ?_⟩
  · rw [e]
    exact joinL_mem (List.mem_map_of_mem hw) hc
  · have := hl.2 _ (List.mem_map_of_mem (f := TL.tl) hw)
    rw [TL.len_tl]
    omega
  · have := hl.1
    rw [List.length_map] at this
    omega
def formsA : List (Str × Str) := [("lamp", "nnnnn"), ("unsure", "c"), ("post", "nnnn"), ("pane", "nnnns"), ("move", "wnnn"), ("switch", "n"), ("drop", "wn"), ("look", "nnnnn"), ("strike", "n"), ("settle", "nn"), ("many", "d")]
def FT (w : Str) : Option Str := (formsA.find? fun p => decide (p.1 = w)).map (·.2)
def strV : Option Str → V
  | some f => .str f
  | none => .non
def formOf (w : Str) : Option Str := if w = "many" then some "n" else FT w
noncomputable def thsOf : List Nat → List Str → Option (List V)
  | [], [] => some []
  | c :: cs, w :: ws => match thOf ⟨#[c]⟩ w, thsOf cs ws with
    | some v, some vs => some (v :: vs)
    | _, _ => none
  | _, _ => none
def negV : List V → Bool
  | .int k :: _ => decide (k < 0)
  | _ => false
noncomputable def rdW : List Str → Option WD
  | [] => none
  | w :: ws => if w = "unsure" then (chOf ws).map WD.unsure else
    match formOf w with
    | none => none
    | some fm => if fm.cps.size = ws.length then
        match thsOf fm.cps.toList ws with
        | none => none
        | some xs => if w = "many" ∧ negV xs = true then none else some (.plain w xs)
      else none
def spRowA (K : PySem.W.Frag) : Sp := fun vs H Q _ => ∃ row : Str, vs = [.str row] ∧ Asc row ∧ (rdW (Txt.split row " ") = none → ∀ H', Ex H H' → Q .non H') ∧
  ∀ d, rdW (Txt.split row " ") = some d → ∀ (p : Addr) (H' : Hp), H p = none → Ex H H' → DeedV K H' p d → Q (.ref p) H'
noncomputable def ysOf (cs : List Nat) (ws : List Str) : List V := (cs.zip ws).map fun p => (thOf ⟨#[p.1]⟩ p.2).getD .non
theorem thOf_flat {l x : Str} {v : V} (h : thOf l x = some v) : flatV v = true ∧ eqV v .non = false := by
  unfold thOf at h
  split at h
  · obtain ⟨n, _, rfl⟩ := Option.map_eq_some_iff.mp h
    exact ⟨rfl, rfl⟩
  · split at h
    · cases h
    · cases h
      exact ⟨rfl, rfl⟩
theorem ys_flat (cs : List Nat) (ws : List Str) : (ysOf cs ws).all flatV = true := by
  rw [List.all_eq_true]
  intro v hv
  obtain ⟨p, _, rfl⟩ := List.mem_map.mp hv
  cases h : thOf ⟨#[p.1]⟩ p.2 with
  | none => rfl
  | some v => exact (thOf_flat h).1
theorem ys_ths : ∀ {cs : List Nat} {ws : List Str}, cs.length = ws.length → (inV .non (ysOf cs ws) = (thsOf cs ws).isNone) ∧ ∀ xs, thsOf cs ws = some xs → ysOf cs ws = xs
  | [], [], _ => ⟨rfl, fun xs h => by
    cases h
    rfl⟩
  | [], _ :: _, h => by cases h
  | _ :: _, [], h => by cases h
  | c :: cs, w :: ws, h => by
    obtain ⟨h1, h2⟩ := ys_ths (cs := cs) (ws := ws) (Nat.succ.inj h)
    have ey : ysOf (c :: cs) (w :: ws) = (thOf ⟨#[c]⟩ w).getD .non :: ysOf cs ws := rfl
    have et : thsOf (c :: cs) (w :: ws) = (match thOf ⟨#[c]⟩ w, thsOf cs ws with | some v, some vs => some (v :: vs) | _, _ => none) := rfl
    have ei : inV .non (ysOf (c :: cs) (w :: ws)) = (eqV ((thOf ⟨#[c]⟩ w).getD .non) .non || inV .non (ysOf cs ws)) := rfl
    rw [ei, et, h1]
    cases hv : thOf ⟨#[c]⟩ w with
    | none => exact ⟨rfl, fun xs h => by cases h⟩
    | some v =>
      have z : eqV v .non = false := (thOf_flat hv).2
      cases ht : thsOf cs ws with
      | none => exact ⟨by show (eqV v .non || true) = true; rw [z] <;> rfl, fun xs h => by cases h⟩
      | some vs =>
        refine ⟨by show (eqV v .non || false) = false; rw [z] <;> rfl, fun xs h => ?_⟩
        cases h
        rw [ey, hv, h2 vs ht]
        rfl
end Hs
namespace Hs
open PySem PySem.Spec PyProof.Rows L2 Evl
theorem et_nonS {σ : L2.St} {H : Hp} {i : Nat} {x : Str} (h : σ[i]? = some (some (.str x))) : EvT (tTest (tOp (fun x y H Q => y = V.non ∧ Q (V.bl (decide (x = V.non))) H) (tVar i) (tC V.non))) σ H false :=
  et_is (et_test (ev_op (ev_var h) ev_c fun H6 _ _ q6 => ⟨rfl, q6 H6 (Ex.refl _)⟩)) (decide_eq_false fun z => by cases z)
theorem et_nonN {σ : L2.St} {H : Hp} {i : Nat} (h : σ[i]? = some (some V.non)) : EvT (tTest (tOp (fun x y H Q => y = V.non ∧ Q (V.bl (decide (x = V.non))) H) (tVar i) (tC V.non))) σ H true :=
  et_is (et_test (ev_op (ev_var h) ev_c fun H6 _ _ q6 => ⟨rfl, q6 H6 (Ex.refl _)⟩)) rfl
section
variable {P : Program} {w : World} {K : PySem.W.Frag} {mg : Str → Option Value} {base : Heap} {f dF : Addr} {fd : FuncData} {esF : Array DictEntry} {nF : Nat}
abbrev sReadRow : Stmt := top 14
theorem scReadRow : FnScope ["row", "word", "words", "choices", "form", "things", "letter", "thing"] ["row"] (defScope sReadRow) := ⟨rfl, rfl, rfl, by decide +kernel, rfl, by decide +kernel, by decide +kernel⟩
theorem FT_ascii {w fm : Str} (h : FT w = some fm) : fm.cps.all (· < 128) = true ∧ fm.cps.size ≤ 5 := by
  have z : ∀ p ∈ formsA, p.2.cps.all (· < 128) = true ∧ p.2.cps.size ≤ 5 := by decide +kernel
  unfold FT at h
  obtain ⟨p, hp, rfl⟩ := Option.map_eq_some_iff.mp h
  exact z p (List.mem_of_find?_eq_some hp)
theorem ok_rowA (F : FnP K "read_row" sReadRow f fd) (DF : KDict K w dF esF nF) (TA : ∀ w, ∃ r, PySem.W.nsIn K dF w = some r ∧ RelV (strV (FT w)) (r.getD .none)) (g_FORMS : mg "FORMS" = some (.ref dF) ∧ RelV (.ref dF) (.ref dF)) (O_read_choices : Own P w K mg base 3 "read_choices" ["words"] (spChA K)) (O_read_thing : Own P w K mg base 2 "read_thing" ["letter", "word"] spThA) (g_len : mg "len" = none) (g_zip : mg "zip" = none) : FnOk P w K mg base CX0 4 f fd ["row"] (spRowA K) := by
  have nd := scReadRow.nd
  refine F.ok scReadRow (fun vs H Q E h => ?_) (fun cdv A outer s H vs Q E hr h => ⟨_, PSs.nox (pss_cons (ps_asg (pe_split (pv 0) pe_str) (Hs.pg_starL rfl (pg_name (i := 1) nd rfl (.inl rfl)) (pg_name (i := 2) nd rfl (.inl rfl))))
  (pss_cons (ps_if (pt_cmpR op_eq (pv 1) pe_str (nomark _)) (pss_cons (ps_set (i := 3) nd rfl (.inl rfl) (Hs.pe_own O_read_choices hr (by first | decide | omega) (by rfl) (pa_cons (pv 2) pa_nil)))
  (pss_one (ps_ret (pe_ifExp (pt_cmpR op_isN (pv 3) pe_non (nomark _)) pe_non (pe_tup (pa_cons (pv 1) (pa_cons (pv 3) pa_nil))))))) pss_nil)
  (pss_cons (ps_set (i := 4) nd rfl (.inl rfl) (pe_ifExp (pt_cmpR op_eq (pv 1) pe_str (nomark _)) pe_str (Hs.pe_kget DF (pe_glob (by rfl) g_FORMS.1 g_FORMS.2) (pv 1) ⟨by rfl, by rfl, by rfl, by rfl⟩)))
  (pss_cons (ps_if (PW.pt (pw_or (pt_cmpR op_isN (pv 4) pe_non (nomark _)) (pw_or1 (pt_cmpR op_ne (pe_callB (r := Evl.rLenS K) call_len_seq (by rfl) g_len PySem.boot_len (pa_cons (pv 2) pa_nil)) (pe_callB call_len_str (by rfl) g_len PySem.boot_len (pa_cons (pv 4) pa_nil)) (nomark _))))) (pss_one (ps_ret pe_non)) pss_nil)
  (pss_cons (ps_setLc (i := 5) (own := [("letter", 6), ("thing", 7)]) (g := gTup K 2 (gCons (gName 6) (gCons (gName 7) gNil))) rfl nd rfl rfl (sw_true rfl rfl rfl (by decide +kernel)) (Hs.pi_zipT (by rfl) g_zip (pa_cons (pv 4) (pa_cons (pv 2) pa_nil))) (blkOk_by (N := ["row", "word", "words", "choices", "form", "things", "letter", "thing"]) (sc := defScope (Hs.top 14)) (by decide +kernel)) (fun _ _ _ _ _ => (pg_tup rfl (pgs_cons (pg_name (i := 6) nd rfl (Or.inl rfl)) (pgs_cons (pg_name (i := 7) nd rfl (Or.inl rfl)) pgs_nil)))) (fun _ _ _ _ _ => pts_nil) (fun _ _ _ _ _ => (Hs.pe_own O_read_thing hr (by first | decide | omega) (by rfl) (pa_cons (pv 6) (pa_cons (pv 7) pa_nil)))))
  (pss_cons (ps_if (PW.pt (pw_or (pt_cmpR op_in_seq pe_non (pv 5) (by rfl)) (pw_or1 (PW.pt (pw_and (pt_cmpR op_eq (pv 1) pe_str (nomark _)) (pw_and1 (pt_cmpR op_lt (pe_ix (r := rIxL K) ix_list (pv 5) pe_int (fun _ _ => rfl)) pe_int (nomark _)))))))) (pss_one (ps_ret pe_non)) pss_nil)
  (pss_one (ps_ret (pe_tup (pa_cons (pv 1) (StX.pa_star (pv 5) pa_nil))))))))))), ?_⟩)
  · obtain ⟨a, rfl, _⟩ := h
    rfl
  · obtain ⟨row, rfl, hA, k0, k1⟩ := h
    obtain ⟨hw, hn⟩ := asc_split (y := " ") hA (by decide +kernel)
    refine ⟨_, rfl, ⟨_, rfl⟩, row, " ", rfl, rfl, by decide +kernel, sz_of (by have := hA.2; omega), fun p0 hp0 => ?_⟩
    have hne := split_ne row " "
    generalize Txt.split row " " = sw at hw hn hne k0 k1 ⊢
    cases sw with
    | nil => exact absurd rfl hne
    | cons wd ws =>
      have e0 := Ex.new (o := .lst ((wd :: ws).map V.str)) hp0
      refine ⟨p0, .str wd, ws.map V.str, rfl, sq_of upd_same, (by rw [List.length_map]; rw [List.length_cons] at hn; omega), fun d hd => ?_⟩
      have e1 := e0.trans (Ex.new (o := .lst (ws.map V.str)) hd)
      dsimp only [gName, List.set]
      generalize hH1 : upd (upd H p0 _) d _ = H1
      have hd1 : H1 d = some (.lst (ws.map V.str)) := by
        rw [← hH1]
        exact upd_same
      rw [hH1] at e1
      have haw : ∀ w ∈ ws, Asc w := fun w hm => hw w (List.mem_cons_of_mem _ hm)
      rw [List.length_cons] at hn
      have er : rdW (wd :: ws) = if wd = "unsure" then (chOf ws).map WD.unsure else match formOf wd with
        | none => none
        | some fm => if fm.cps.size = ws.length then
            match thsOf fm.cps.toList ws with
            | none => none
            | some xs => if wd = "many" ∧ negV xs = true then none else some (.plain wd xs)
          else none := rfl
      by_cases nu : wd = "unsure"
      · rw [if_pos nu] at er
        refine q_when (b := true) (et_is (et_test (ev_op (ev_var (v := .str wd) rfl) ev_c (rv_eq rfl))) (by simp [nu])) (fun _ H2 e2 => ?_) (fun ht => Bool.noConfusion ht)
        refine ⟨_, rfl, d, ws, rfl, sq_of (e2 _ _ hd1), by omega, haw, fun hc H3 e3 => ?_, fun rows hc p H3 np e3 hp => ?_⟩
        · rw [hc] at er
          dsimp only [gName, List.set]
          refine et_nonN rfl H3 (Ex.refl _) _ fun H4 e4 => ite_T rfl (k0 er H4 (((e1.trans e2).trans e3).trans e4))
        · rw [hc] at er
          dsimp only [gName, List.set]
          subst nu
          refine et_nonR rfl H3 (Ex.refl _) _ fun H4 e4 => ite_F rfl ⟨_, rfl, _, rfl, sz_of (by simp), fun t ht => ?_⟩
          have et := Ex.new (o := .tup [V.str "unsure", .ref p]) ht
          have e14 := ((e1.trans e2).trans e3).trans e4
          obtain ⟨ps, h1, h2, h3⟩ := hp
          exact k1 _ er t _ (fresh_back e14 ht) (e14.trans et) ⟨p, ps, st_of upd_same, ex_t (e4.trans et) h1, h2, fun i q r hq hr => ex_t (e4.trans et) (h3 i q r hq hr)⟩
      · rw [if_neg nu] at er
        refine q_when (b := false) (et_is (et_test (ev_op (ev_var rfl) ev_c (rv_eq rfl))) (by simp [nu])) (fun ht => Bool.noConfusion ht) (fun _ H2 e2 => ?_)
        refine q_asg (v := strV (formOf wd)) (ev_if (b := decide (wd = "many")) (et_is (et_test (ev_op (ev_var (v := .str wd) rfl) ev_c (rv_eq rfl))) (by simp)) (fun hm => ?_) (fun hm => ?_)) (fun H3 e3 => ?_)
        · have e : formOf wd = some "n" := if_pos (of_decide_eq_true hm)
          rw [e]
          exact ev_c
        · have e : formOf wd = FT wd := if_neg (of_decide_eq_false hm)
          rw [e]
          obtain ⟨r, hr1, hr2⟩ := TA wd
          exact fun H3 e3 Q3 q3 => ⟨rfl, _, rfl, wd, r, strV (FT wd), rfl, hr1, hr2, q3 H3 (Ex.refl _)⟩
        have e13 := (e1.trans e2).trans e3
        have hd3 := (e2.trans e3) _ _ hd1
        cases hfm : formOf wd with
        | none =>
          rw [hfm] at er
          refine q_when (b := true) (et_is (et_or (a := true) (b := true) (et_nonN rfl) fun h => Bool.noConfusion h) rfl) (fun _ H4 e4 => ?_) (fun ht => Bool.noConfusion ht)
          exact s_ret ev_c fun H5 e5 => k0 er H5 ((e13.trans e4).trans e5)
        | some fm =>
          have hfa : fm.cps.all (· < 128) = true ∧ fm.cps.size ≤ 5 := by
            unfold formOf at hfm
            split at hfm
            · cases hfm
              exact ⟨by decide +kernel, by decide +kernel⟩
            · exact FT_ascii hfm
          obtain ⟨ha, h5⟩ := hfa
          rw [hfm] at er
          have er : rdW (wd :: ws) = if fm.cps.size = ws.length then
            match thsOf fm.cps.toList ws with
            | none => none
            | some xs => if wd = "many" ∧ negV xs = true then none else some (.plain wd xs)
            else none := er
          have lfm : fm.length = fm.cps.size := rfl
          have tst : EvT (tOr (tTest (tOp (fun x y H Q => y = V.non ∧ Q (V.bl (decide (x = V.non))) H) (tVar 4) (tC V.non))) (tTest (tOp rNe (tCB (rLenS K) (tCons (tVar 2) tNil)) (tCB (fun xs H Q => ∃ z, xs = [V.str z] ∧ z.length ≤ sizeLine ∧ Q (V.int ↑z.length) H) (tCons (tVar 4) tNil))))) [some (.str row), some (.str wd), some (.ref d), none, some (.str fm), none, none, none] H3 (!decide (fm.cps.size = ws.length)) :=
            et_is (et_or (a := false) (b := !decide (fm.cps.size = ws.length)) (et_nonS rfl) fun _ => et_is (et_test (ev_op (ev_len (K := K) (ev_var (v := .ref d) rfl) (sq_of hd3)) (fun H6 e6 Q6 q6 => ⟨_, rfl, fm, rfl, sz_of (by omega), q6 H6 (Ex.refl _)⟩) (rv_ne rfl))) (by
              rw [List.length_map, lfm]
              congr 1
              by_cases hq : fm.cps.size = ws.length
              · rw [hq, decide_eq_true rfl, decide_eq_true rfl]
              · rw [decide_eq_false hq, decide_eq_false (fun z => hq (by injection z with z; omega))])) rfl
          by_cases hls : fm.cps.size = ws.length
          · rw [if_pos hls] at er
            rw [decide_eq_true hls] at tst
            refine q_when (b := false) tst (fun ht => Bool.noConfusion ht) (fun _ H4 e4 => ?_)
            have hd4 := e4 _ _ hd3
            have lcs : fm.cps.toList.length = ws.length := by rw [Array.length_toList, hls]
            obtain ⟨y1, y2⟩ := ys_ths lcs
            have key : EvL (tLc (iZipT K (tCons (tVar 4) (tCons (tVar 2) tNil))) (gTup K 2 (gCons (gName 6) (gCons (gName 7) gNil))) tYes (tCall spThA [] E0 (tCons (tVar 6) (tCons (tVar 7) tNil))) [6, 7]) [some (.str row), some (.str wd), some (.ref d), none, some (.str fm), none, none, none] H4 (ysOf fm.cps.toList ws) := by
              have z := el_lcZT (K := K) (ta := tVar 4) (tb := tVar 2) (te := tCall spThA [] E0 (tCons (tVar 6) (tCons (tVar 7) tNil))) (i := 6) (j := 7) (vs := [6, 7]) (σ := [some (.str row), some (.str wd), some (.ref d), none, some (.str fm), none, none, none]) (fun k => (thOf ⟨#[((fm.cps.toList.zip ws).getD k (0, "")).1]⟩ ((fm.cps.toList.zip ws).getD k (0, "")).2).getD .non) (ev_var rfl) (ev_var rfl) ha (sq_of hd4) (by rw [List.length_map, hls]) (by rw [List.length_map]; omega) (fun _ _ => rfl) (fun i c y H5 e5 hc hy => by
                rw [List.getElem?_map] at hy
                obtain ⟨t, ht, rfl⟩ := Option.map_eq_some_iff.mp hy
                have hz : (fm.cps.toList.zip ws)[i]? = some (c, t) := by
                  rw [List.getElem?_zip_eq_some]
                  exact ⟨by rw [Array.getElem?_toList]; exact hc, ht⟩
                have eg : (fm.cps.toList.zip ws).getD i (0, "") = (c, t) := by rw [List.getD_eq_getElem?_getD, hz] <;> rfl
                rw [eg]
                exact ev_call (ea_cons (ev_var rfl) (ea_cons (ev_var rfl) ea_nil)) fun H6 e6 Q6 q6 E6 => ⟨⟨#[c]⟩, t, rfl, haw t (List.mem_of_getElem? ht), q6⟩)
              have lz : (ws.map V.str).length = (fm.cps.toList.zip ws).length := by rw [List.length_map, List.length_zip, lcs, Nat.min_self]
              rw [lz] at z
              have z2 := given_mapA (xs := fm.cps.toList.zip ws) (g := fun p => (thOf ⟨#[p.1]⟩ p.2).getD .non) (d := ((0, "") : Nat × Str))
              have z3 : (given (fm.cps.toList.zip ws).length (fun _ => true) fun k => (thOf ⟨#[((fm.cps.toList.zip ws).getD k (0, "")).1]⟩ ((fm.cps.toList.zip ws).getD k (0, "")).2).getD .non) = ysOf fm.cps.toList ws := z2
              rw [z3] at z
              exact z
            refine q_asgL key fun D H5 nD e5 hD => ?_
            have e15 := (e13.trans e4).trans e5
            have isn : EvT (tTest (tOp (rIn K false) (tC V.non) (tVar 5))) [some (.str row), some (.str wd), some (.ref d), none, some (.str fm), some (.ref D), none, none] H5 (thsOf fm.cps.toList ws).isNone :=
              et_is (et_test (ev_op ev_c (ev_var rfl) (rv_isL (K := K) (sq_of hD) rfl (ys_flat _ _)))) y1
            cases hth : thsOf fm.cps.toList ws with
            | none =>
              rw [hth] at er isn
              refine q_when (b := true) (et_is (et_or (a := true) (b := true) isn fun h => Bool.noConfusion h) rfl) (fun _ H6 e6 => ?_) (fun ht => Bool.noConfusion ht)
              exact s_ret ev_c fun H7 e7 => k0 er H7 ((e15.trans e6).trans e7)
            | some xs =>
              rw [hth] at er isn
              have er : rdW (wd :: ws) = if wd = "many" ∧ negV xs = true then none else some (.plain wd xs) := er
              rw [y2 xs hth] at hD
              have lxs : xs.length ≤ 100 := by
                have z := y2 xs hth
                rw [← z]
                unfold ysOf
                rw [List.length_map, List.length_zip, Array.length_toList]
                omega
              have neg : EvT (tAnd (tTest (tOp rEq (tVar 1) (tC (V.str "many")))) (tTest (tOp (rI0 fun i j => V.bl (decide (i < j))) (tOp (rIxL K) (tVar 5) (tC (V.int 0))) (tC (V.int 0))))) [some (.str row), some (.str wd), some (.ref d), none, some (.str fm), some (.ref D), none, none] H5 (decide (wd = "many" ∧ negV xs = true)) := by
                refine et_is (et_and (a := decide (wd = "many")) (b := negV xs) (et_is (et_test (ev_op (ev_var (v := .str wd) rfl) ev_c (rv_eq rfl))) (by simp)) fun hm => ?_) ?_
                · have hm' : wd = "many" := of_decide_eq_true hm
                  have hf2 : fm = "n" := by
                    unfold formOf at hfm
                    rw [if_pos hm'] at hfm
                    exact (Option.some.inj hfm).symm
                  obtain ⟨n, rest, rfl⟩ : ∃ n rest, xs = V.int n :: rest := by
                    rw [hf2] at hth lcs
                    have ec : ("n" : Str).cps.toList = [110] := by decide +kernel
                    rw [ec] at hth lcs
                    cases ws with
                    | nil => cases lcs
                    | cons t ts =>
                      unfold thsOf at hth
                      split at hth
                      · rename_i v vs h1 h2
                        cases hth
                        have e110 : (⟨#[110]⟩ : Str) = "n" := by decide +kernel
                        unfold thOf at h1
                        rw [if_pos e110] at h1
                        obtain ⟨n, _, rfl⟩ := Option.map_eq_some_iff.mp h1
                        exact ⟨n, vs, rfl⟩
                      · cases hth
                  exact et_is (et_test (ev_op (ev_op (ev_var rfl) ev_c (rv_ixL (K := K) (v := .int n) (sq_of hD) (atI_nat (xs := .int n :: rest) (j := 0) rfl))) ev_c rv_I0)) rfl
                · rw [Bool.decide_and]
                  congr 1
                  cases negV xs <;> rfl
              by_cases hng : wd = "many" ∧ negV xs = true
              · rw [if_pos hng] at er
                rw [decide_eq_true hng] at neg
                refine q_when (b := true) (et_is (et_or (a := false) (b := true) isn fun _ => neg) rfl) (fun _ H6 e6 => ?_) (fun ht => Bool.noConfusion ht)
                exact s_ret ev_c fun H7 e7 => k0 er H7 ((e15.trans e6).trans e7)
              · rw [if_neg hng] at er
                rw [decide_eq_false hng] at neg
                refine q_when (b := false) (et_is (et_or (a := false) (b := false) isn fun _ => neg) rfl) (fun ht => Bool.noConfusion ht) (fun _ H6 e6 => ?_)
                have e16 := e15.trans e6
                refine ⟨_, rfl, _, rfl, D, xs, rfl, .inr (sq_of (e6 _ _ hD)), ?_⟩
                refine ⟨sz_of (by rw [List.length_cons, List.append_nil]; omega), fun q hq => ?_⟩
                rw [List.append_nil] at *
                exact k1 _ er q _ (fresh_back e16 hq) (e16.trans (Ex.new hq)) (st_of upd_same)
          · rw [if_neg hls] at er
            rw [decide_eq_false hls] at tst
            refine q_when (b := true) tst (fun _ H4 e4 => ?_) (fun ht => Bool.noConfusion ht)
            exact s_ret ev_c fun H5 e5 => k0 er H5 ((e13.trans e4).trans e5)
end
end Hs
namespace Hs
open PySem PySem.Spec PyProof.Rows L2 Evl
/-! ### a text read: any text -/
def FliesR (C : Addr) (wd : Str) (r : Int) (H : Hp) (E : XK) : Prop := ∀ (d : Addr) (H' : Hp), Ex H H' → H d = none → H' d = some (.xd [("row", .int r), ("word", .str wd)]) → E (.ref C) (some d) H'
def headW : WD → Str
  | .plain w _ => w
  | .unsure _ => "unsure"
noncomputable def rdOne (r : Str) : Option WD := (rdW (Txt.split r " ")).bind fun d => if headW d = "many" then none else some d
noncomputable def rdSome : List Str → Nat → Sum Nat (List WD)
  | [], _ => .inr []
  | r :: rs, j => match rdOne r with
    | none => .inl j
    | some d => match rdSome rs (j + 1) with
      | .inl b => .inl b
      | .inr ds => .inr (d :: ds)
def manyK : WD → Nat
  | .plain _ (.int k :: _) => k.toNat
  | _ => 0
noncomputable def rdFrom : List Str → Sum Nat (DD × Nat)
  | [] => .inl 0
  | r0 :: rest => match rdW (Txt.split r0 " ") with
    | none => .inl 0
    | some d => if headW d = "many" then
        match rdSome (rest.take (manyK d)) 1 with
        | .inl b => .inl b
        | .inr ds => if rest.length < manyK d then .inl (rest.length + 1) else .inr (.many ds, 1 + manyK d)
      else .inr (.one d, 1)
noncomputable def rdText (t : Str) : Sum Nat DD := match rdFrom (Txt.split t "\n") with
  | .inl b => .inl b
  | .inr (dd, n) => if n < (Txt.split t "\n").length then .inl n else .inr dd
theorem rdSome_app : ∀ (i : Nat) {rs : List Str} {j : Nat} {ds : List WD}, rdSome (rs.take i) j = .inr ds → rdSome rs j = (match rdSome (rs.drop i) (j + i) with | .inl b => .inl b | .inr es => .inr (ds ++ es))
  | 0, rs, j, ds, h => by
    cases h
    rw [List.drop_zero, Nat.add_zero]
    cases rdSome rs j <;> rfl
  | i + 1, [], j, ds, h => by
    cases h
    rfl
  | i + 1, r :: rs, j, ds, h => by
    have e : rdSome (r :: rs) j = (match rdOne r with | none => .inl j | some d => match rdSome rs (j + 1) with | .inl b => .inl b | .inr ds => .inr (d :: ds)) := rfl
    have e2 : rdSome ((r :: rs).take (i + 1)) j = (match rdOne r with | none => .inl j | some d => match rdSome (rs.take i) (j + 1) with | .inl b => .inl b | .inr ds => .inr (d :: ds)) := rfl
    rw [e2] at h
    rw [e]
    cases hr : rdOne r with
    | none =>
      rw [hr] at h
      cases h
    | some d =>
      rw [hr] at h
      have h : (match rdSome (rs.take i) (j + 1) with | .inl b => Sum.inl b | .inr ds => .inr (d :: ds)) = Sum.inr ds := h
      cases ht : rdSome (rs.take i) (j + 1) with
      | inl b =>
        rw [ht] at h
        cases h
      | inr es =>
        rw [ht] at h
        cases h
        have ih := rdSome_app i (rs := rs) (j := j + 1) ht
        show (match rdSome rs (j + 1) with | .inl b => Sum.inl b | .inr ds => .inr (d :: ds)) = _
        rw [ih, show j + 1 + i = j + (i + 1) by omega]
        show _ = (match rdSome (rs.drop i) (j + (i + 1)) with | .inl b => Sum.inl b | .inr fs => .inr (d :: es ++ fs))
        cases rdSome (rs.drop i) (j + (i + 1)) <;> rfl
theorem many_shape {ws : List Str} {d : WD} (h : rdW ws = some d) (hm : headW d = "many") : ∃ k : Nat, d = .plain "many" [.int (k : Int)] ∧ k < 10 ^ 9 := by
  cases ws with
  | nil => cases h
  | cons w ws =>
    have h : (if w = "unsure" then (chOf ws).map WD.unsure else match formOf w with
      | none => none
      | some fm => if fm.cps.size = ws.length then
          match thsOf fm.cps.toList ws with
          | none => none
          | some xs => if w = "many" ∧ negV xs = true then none else some (.plain w xs)
        else none) = some d := h
    split at h
    · cases hc : chOf ws with
      | none =>
        rw [hc] at h
        cases h
      | some rows =>
        rw [hc] at h
        cases h
        exact absurd hm (show ¬ ("unsure" : Str) = "many" by decide +kernel)
    · split at h
      · cases h
      · rename_i fm hfm
        split at h
        · rename_i hsz
          split at h
          · cases h
          · rename_i xs hxs
            split at h
            · cases h
            · rename_i hng
              cases h
              have hw : w = "many" := hm
              subst hw
              have ef : fm = "n" := by
                unfold formOf at hfm
                rw [if_pos rfl] at hfm
                exact (Option.some.inj hfm).symm
              subst ef
              have ec : ("n" : Str).cps.toList = [110] := by decide +kernel
              have es : ("n" : Str).cps.size = 1 := by decide +kernel
              rw [ec] at hxs
              rw [es] at hsz
              cases ws with
              | nil => cases hsz
              | cons t ts =>
                cases ts with
                | cons _ _ => simp at hsz
                | nil =>
                  unfold thsOf at hxs
                  split at hxs
                  · rename_i v vs h1 h2
                    cases h2
                    cases hxs
                    have e110 : (⟨#[110]⟩ : Str) = "n" := by decide +kernel
                    unfold thOf at h1
                    rw [if_pos e110] at h1
                    obtain ⟨n, hn, rfl⟩ := Option.map_eq_some_iff.mp h1
                    have hb := (numOf_some hn).1
                    have h0 : 0 ≤ n := by
                      have z : ¬ decide (n < 0) = true := fun z => hng ⟨rfl, z⟩
                      simp at z
                      exact z
                    refine ⟨n.toNat, ?_, by omega⟩
                    rw [Int.toNat_of_nonneg h0]
                  · cases hxs
        · cases h
theorem rdSome_bad {rs : List Str} {i j : Nat} {ds : List WD} {r : Str} (h : rdSome (rs.take i) j = .inr ds) (hr : rs[i]? = some r) (hb : rdOne r = none) : rdSome rs j = .inl (j + i) := by
  rw [rdSome_app i h]
  have e : rs.drop i = r :: rs.drop (i + 1) := by
    obtain ⟨hi, he⟩ := List.getElem?_eq_some_iff.mp hr
    rw [← he, List.drop_eq_getElem_cons hi]
  rw [e]
  show (match (match rdOne r with | none => Sum.inl (j + i) | some d => match rdSome (rs.drop (i + 1)) (j + i + 1) with | .inl b => .inl b | .inr ds => .inr (d :: ds)) with | .inl b => Sum.inl b | .inr es => .inr (ds ++ es)) = _
  rw [hb]
theorem rdSome_snoc {rs : List Str} {i j : Nat} {ds : List WD} {r : Str} {d : WD} (h : rdSome (rs.take i) j = .inr ds) (hr : rs[i]? = some r) (hb : rdOne r = some d) : rdSome (rs.take (i + 1)) j = .inr (ds ++ [d]) := by
  have h2 : rdSome ((rs.take (i + 1)).take i) j = .inr ds := by
    rw [List.take_take, Nat.min_eq_left (Nat.le_succ i)]
    exact h
  rw [rdSome_app i h2]
  obtain ⟨hi, he⟩ := List.getElem?_eq_some_iff.mp hr
  have e : (rs.take (i + 1)).drop i = [r] := by
    rw [List.drop_take, show i + 1 - i = 1 by omega, List.drop_eq_getElem_cons hi, he]
    rfl
  rw [e]
  show (match (match rdOne r with | none => Sum.inl (j + i) | some d => match rdSome [] (j + i + 1) with | .inl b => .inl b | .inr ds => .inr (d :: ds)) with | .inl b => Sum.inl b | .inr es => .inr (ds ++ es)) = _
  rw [hb]
  rfl
theorem head_plain {K : PySem.W.Frag} {H : Hp} {a : Addr} {d : WD} (h : DeedV K H a d) : ∃ xs, SqT K H a (.str (headW d) :: xs) := by
  cases d with
  | plain w xs => exact ⟨xs, h⟩
  | unsure rows =>
    obtain ⟨c, ps, h1, _⟩ := h
    exact ⟨_, h1⟩
def spFromA (K : PySem.W.Frag) (C : Addr) : Sp := fun vs H Q E => ∃ (a : Addr) (rows : List Str), vs = [.ref a, .int 0] ∧ SqL K H a (rows.map V.str) ∧ rows ≠ [] ∧ rows.length ≤ 15001 ∧ (∀ r ∈ rows, Asc r) ∧ (∀ b : Nat, rdFrom rows = .inl b → FliesR C "badtext" (b : Int) H E) ∧
  ∀ (dd : DD) (n : Nat), rdFrom rows = .inr (dd, n) → ∀ (t p : Addr) (H' : Hp), Ex H H' → SqT K H' t [.ref p, .int (n : Int)] → DDV K H' p dd → Q (.ref t) H'
def spDeedA (K : PySem.W.Frag) (C : Addr) : Sp := fun vs H Q E => ∃ t : Str, vs = [.str t] ∧ Asc t ∧ (∀ b : Nat, rdText t = .inl b → FliesR C "badtext" (b : Int) H E) ∧ ∀ dd, rdText t = .inr dd → ∀ (p : Addr) (H' : Hp), Ex H H' → DDV K H' p dd → Q (.ref p) H'
theorem FliesR.ext {C : Addr} {wd : Str} {r : Int} {H H' : Hp} {E : XK} (h : FliesR C wd r H E) (e : Ex H H') : FliesR C wd r H' E := fun d H2 e2 n hd => h d H2 (e.trans e2) (fresh_back e n) hd
section
variable {P : Program} {w : World} {K : PySem.W.Frag} {mg : Str → Option Value} {base : Heap} {f C : Addr} {fd : FuncData}
abbrev sReadFrom : Stmt := top 15
theorem scReadFrom : FnScope ["rows", "first", "deed", "within", "end", "number", "other"] ["rows", "first"] (defScope sReadFrom) := ⟨rfl, rfl, rfl, by decide +kernel, rfl, by decide +kernel, by decide +kernel⟩
theorem ok_fromA (F : FnP K "read_from" sReadFrom f fd) (Er_BadText : ErrR P w K mg base 1 "BadText" C "badtext") (O_read_row : Own P w K mg base 4 "read_row" ["row"] (spRowA K)) (g_len : mg "len" = none) (g_range : mg "range" = none) (g_min : mg "min" = none) (g_tuple : mg "tuple" = none) : FnOk P w K mg base (L2.CX P w) 5 f fd ["rows", "first"] (spFromA K C) := by
  have nd := scReadFrom.nd
  refine F.ok scReadFrom (fun vs H Q E h => ?_) (fun cdv A outer s H vs Q E hr h => ⟨_, (pss_cons (ps_set (i := 2) nd rfl (.inl rfl) (Hs.pe_own O_read_row hr (by first | decide | omega) (by rfl) (pa_cons (pe_ix (r := rIxL K) ix_list (pv 0) (pv 1) (fun _ _ => rfl)) pa_nil)))
  (pss_cons (ps_if (pt_cmpR op_isN (pv 2) pe_non (nomark _)) (pss_one (ps_raise rfl (takes_of rfl rfl rfl rfl) (Hs.pmk_errR Er_BadText hr (by decide) (by rfl) (pv 1)))) pss_nil)
  (pss_cons (ps_if (pt_cmpR op_ne (pe_ix (r := rIxT K) ix_tup (pv 2) pe_int (fun _ _ => rfl)) pe_str (nomark _)) (pss_one (ps_ret (pe_tup (pa_cons (pv 2) (pa_cons (pe_op op_add (pv 1) pe_int) pa_nil))))) pss_nil)
  (pss_cons (ps_set (i := 3) nd rfl (.inl rfl) (pe_lst pa_nil))
  (pss_cons (ps_set (i := 4) nd rfl (.inl rfl) (pe_op op_add (pe_op op_add (pv 1) pe_int) (pe_ix (r := rIxT K) ix_tup (pv 2) pe_int (fun _ _ => rfl))))
  (pss_cons (ps_for (passes_of rfl) rfl (pi_range2 (by rfl) g_range (pa_cons (pe_op op_add (pv 1) pe_int) (pa_cons (pe_callB (call_min2 rfl) (by rfl) g_min (by decide +kernel) (pa_cons (pv 4) (pa_cons (pe_callB (r := Evl.rLenS K) call_len_seq (by rfl) g_len PySem.boot_len (pa_cons (pv 0) pa_nil)) pa_nil))) pa_nil))) (pg_name (i := 5) nd rfl (.inl rfl)) (pss_cons (ps_set (i := 6) nd rfl (.inl rfl) (Hs.pe_own O_read_row hr (by first | decide | omega) (by rfl) (pa_cons (pe_ix (r := rIxL K) ix_list (pv 0) (pv 5) (fun _ _ => rfl)) pa_nil)))
  (pss_cons (ps_if (PW.pt (pw_or (pt_cmpR op_isN (pv 6) pe_non (nomark _)) (pw_or1 (pt_cmpR op_eq (pe_ix (r := rIxT K) ix_tup (pv 6) pe_int (fun _ _ => rfl)) pe_str (nomark _))))) (pss_one (ps_raise rfl (takes_of rfl rfl rfl rfl) (Hs.pmk_errR Er_BadText hr (by decide) (by rfl) (pv 5)))) pss_nil)
  (pss_one (ps_expr (pe_bm PySem.F.plainAttrs_list PySem.F.slot_list_append PySem.F.type_list_append mt_append (pv 3) (pa_cons (pv 6) pa_nil)))))))
  (pss_cons (ps_if (pt_cmpR op_gt (pv 4) (pe_callB (r := Evl.rLenS K) call_len_seq (by rfl) g_len PySem.boot_len (pa_cons (pv 0) pa_nil)) (nomark _)) (pss_one (ps_raise rfl (takes_of rfl rfl rfl rfl) (Hs.pmk_errR Er_BadText hr (by decide) (by rfl) (pe_callB (r := Evl.rLenS K) call_len_seq (by rfl) g_len PySem.boot_len (pa_cons (pv 0) pa_nil))))) pss_nil)
  (pss_one (ps_ret (pe_tup (pa_cons (pe_tup (pa_cons pe_str (pa_cons (pe_callTy call_tuple_of (by rfl) g_tuple (by decide +kernel) (pa_cons (pv 3) pa_nil)) pa_nil))) (pa_cons (pv 4) pa_nil)))))))))))), ?_⟩)
  · obtain ⟨a, d, rfl, _⟩ := h
    rfl
  · obtain ⟨a, rows, rfl, hx, hne, hl, hA, kE, k⟩ := h
    cases rows with
    | nil => exact absurd rfl hne
    | cons r0 rest =>
      have er : rdFrom (r0 :: rest) = (match rdW (Txt.split r0 " ") with
        | none => .inl 0
        | some d => if headW d = "many" then
            match rdSome (rest.take (manyK d)) 1 with
            | .inl b => .inl b
            | .inr ds => if rest.length < manyK d then .inl (rest.length + 1) else .inr (.many ds, 1 + manyK d)
          else .inr (.one d, 1)) := rfl
      refine q_call (ea_cons (ev_op (ev_var rfl) (ev_var rfl) (rv_ixL (v := .str r0) hx (atI_nat (j := 0) rfl))) ea_nil) fun H1 e1 => ⟨r0, rfl, hA r0 List.mem_cons_self, fun h0 H2 e2 => ?_, fun d h0 p H2 np e2 hp => ?_⟩
      · rw [h0] at er
        dsimp only [List.set]
        refine q_when (b := true) (et_nonN rfl) (fun _ H3 e3 => ?_) (fun ht => Bool.noConfusion ht)
        exact ⟨0, ev_var rfl, by decide, (kE 0 er).ext ((e1.trans e2).trans e3)⟩
      · rw [h0] at er
        have er : rdFrom (r0 :: rest) = (if headW d = "many" then
            match rdSome (rest.take (manyK d)) 1 with
            | .inl b => .inl b
            | .inr ds => if rest.length < manyK d then .inl (rest.length + 1) else .inr (.many ds, 1 + manyK d)
          else .inr (.one d, 1)) := er
        dsimp only [List.set]
        refine q_when (b := false) (et_nonR rfl) (fun ht => Bool.noConfusion ht) (fun _ H3 e3 => ?_)
        by_cases hm : headW d = "many"
        · rw [if_pos hm] at er
          obtain ⟨kk, rfl, hk9⟩ := many_shape h0 hm
          have hp : SqT K H2 p [.str "many", .int (kk : Int)] := hp
          have er : rdFrom (r0 :: rest) = (match rdSome (rest.take kk) 1 with
            | .inl b => .inl b
            | .inr ds => if rest.length < kk then .inl (rest.length + 1) else .inr (.many ds, 1 + kk)) := by
            rw [er]
            show (match rdSome (rest.take ((kk : Int).toNat)) 1 with | .inl b => (Sum.inl b : Sum Nat (DD × Nat)) | .inr ds => if rest.length < (kk : Int).toNat then .inl (rest.length + 1) else .inr (DD.many ds, 1 + (kk : Int).toNat)) = _
            rw [Int.toNat_natCast]
          refine q_when (b := false) (et_is (et_test (ev_op (ev_op (ev_var rfl) ev_c (rv_ixT (v := .str "many") (ex_t e3 hp) rfl)) ev_c (rv_ne rfl))) (by simp)) (fun ht => Bool.noConfusion ht) (fun _ H4 e4 => ?_)
          refine q_asgL (el_lst ea_nil (by simp)) fun D H5 nD e5 hD => ?_
          refine q_asg (ev_op (ev_op (ev_var rfl) ev_c rv_I0) (ev_op (ev_var rfl) ev_c (rv_ixT (v := .int (kk : Int)) (ex_t ((e3.trans e4).trans e5) hp) rfl)) rv_I0) fun H6 e6 => ?_
          have e06 := ((((e1.trans e2).trans e3).trans e4).trans e5).trans e6
          have lr : ((r0 :: rest).map V.str).length = rest.length + 1 := by simp
          rw [List.length_cons] at hl
          have nD0 : H D = none := fresh_back (((e1.trans e2).trans e3).trans e4) nD
          have lM : (rest.take kk).length = min kk rest.length := List.length_take
          generalize hM : (rest.take kk).length = M at lM
          have emin : ∀ {H7 : Hp}, Ex H6 H7 → Ev (tCB (fun xs H Q => ∃ i j, xs = [V.int i, V.int j] ∧ Q (V.int (if j < i then j else i)) H) (tCons (tVar 4) (tCons (tCB (rLenS K) (tCons (tVar 0) tNil)) tNil))) [some (.ref a), some (.int 0), some (.ref p), some (.ref D), some (.int (0 + 1 + (kk : Int))), none, none] H7 (.int (1 + (M : Int))) := fun e7 H8 e8 Q8 q8 => ⟨_, rfl, _, rfl, a, _, rfl, .inl (ex_l ((e06.trans e7).trans e8) hx), _, _, rfl, by
            have e9 : (if (((r0 :: rest).map V.str).length : Int) < 0 + 1 + (kk : Int) then (((r0 :: rest).map V.str).length : Int) else 0 + 1 + (kk : Int)) = 1 + (M : Int) := by
              rw [lr]
              split <;> omega
            rw [e9]
            exact q8 H8 (Ex.refl _)⟩
          have bad : ∀ {i : Nat} {ds : List WD} {r : Str}, rdSome ((rest.take kk).take i) 1 = .inr ds → (rest.take kk)[i]? = some r → rdOne r = none → rdFrom (r0 :: rest) = .inl (1 + i) := fun h1 h2 h3 => by
            rw [er, rdSome_bad h1 h2 h3]
          refine q_forR2 (lo := 1) (n := 1 + (M : Int)) (ea_cons (ev_op (ev_var rfl) ev_c rv_I0) (ea_cons (emin (Ex.refl _)) ea_nil)) (by omega) (fun i σ' H' => Ex H H' ∧ ∃ (v5 v6 : Option V) (ps : List Addr) (ds : List WD), σ' = [some (.ref a), some (.int 0), some (.ref p), some (.ref D), some (.int (0 + 1 + (kk : Int))), v5, v6] ∧ H' D = some (.lst (ps.map V.ref)) ∧ ps.length = ds.length ∧ ds.length = i ∧ rdSome ((rest.take kk).take i) 1 = .inr ds ∧ ∀ (j : Nat) (q : Addr) (d : WD), ps[j]? = some q → ds[j]? = some d → DeedV K H' q d) ?_ ?_ ?_
          · intro H7 e7
            exact ⟨e06.trans e7, none, none, [], [], rfl, (e6.trans e7) _ _ hD, rfl, rfl, rfl, fun _ _ _ h _ => by cases h⟩
          · rintro i σ' H' hi ⟨e, v5, v6, ps, ds, rfl, hDl, hpl, hdi, hrd, hps⟩
            have hi' : i < M := by omega
            obtain ⟨r, hr⟩ : ∃ r, (rest.take kk)[i]? = some r := ⟨_, List.getElem?_eq_getElem (by omega)⟩
            have hr2 : rest[i]? = some r := by
              rw [List.getElem?_take] at hr
              split at hr
              · exact hr
              · cases hr
            have hat : ((r0 :: rest).map V.str)[i + 1]? = some (.str r) := by
              rw [List.map_cons, List.getElem?_cons_succ, List.getElem?_map, hr2] <;> rfl
            have hat2 : atI ((r0 :: rest).map V.str) (1 + (i : Int)) = some (.str r) := by
              have z := atI_nat hat
              rwa [show ((i + 1 : Nat) : Int) = 1 + (i : Int) by omega] at z
            have fly : rdOne r = none → ∀ {H7 : Hp}, Ex H' H7 → FliesR C "badtext" (1 + (i : Int)) H7 E := fun hb H7 e7 => by
              have z := (kE _ (bad hrd hr hb)).ext (e.trans e7)
              rwa [show ((1 + i : Nat) : Int) = 1 + (i : Int) by omega] at z
            refine q_call (ea_cons (ev_op (ev_var rfl) (ev_var rfl) (rv_ixL (v := .str r) (ex_l e hx) hat2)) ea_nil) fun H7 e7 => ⟨r, rfl, hA r (List.mem_cons_of_mem _ (List.mem_of_getElem? hr2)), fun hno H8 e8 => ?_, fun d' h' q H8 nq e8 hq => ?_⟩
            · dsimp only [List.set]
              have hb : rdOne r = none := by
                unfold rdOne
                rw [hno]
                rfl
              refine q_when (b := true) (et_is (et_or (a := true) (b := true) (et_nonN rfl) fun h => Bool.noConfusion h) rfl) (fun _ H9 e9 => ?_) (fun ht => Bool.noConfusion ht)
              exact ⟨1 + (i : Int), ev_var rfl, by omega, fly hb ((e7.trans e8).trans e9)⟩
            · dsimp only [List.set]
              obtain ⟨xs, hs⟩ := head_plain hq
              have tst : EvT (tOr (tTest (tOp (fun x y H Q => y = V.non ∧ Q (V.bl (decide (x = V.non))) H) (tVar 6) (tC V.non))) (tTest (tOp rEq (tOp (rIxT K) (tVar 6) (tC (V.int 0))) (tC (V.str "many"))))) [some (.ref a), some (.int 0), some (.ref p), some (.ref D), some (.int (0 + 1 + (kk : Int))), some (.int (1 + (i : Int))), some (.ref q)] H8 (decide (headW d' = "many")) :=
                et_is (et_or (a := false) (b := decide (headW d' = "many")) (et_nonR rfl) fun _ => et_is (et_test (ev_op (ev_op (ev_var rfl) ev_c (rv_ixT (v := .str (headW d')) hs (atI_nat (xs := .str (headW d') :: xs) (j := 0) rfl))) ev_c (rv_eq rfl))) (by simp)) rfl
              by_cases hmm : headW d' = "many"
              · rw [decide_eq_true hmm] at tst
                have hb : rdOne r = none := by
                  unfold rdOne
                  rw [h']
                  show (if headW d' = "many" then none else some d') = none
                  rw [if_pos hmm]
                refine q_when (b := true) tst (fun _ H9 e9 => ?_) (fun ht => Bool.noConfusion ht)
                exact ⟨1 + (i : Int), ev_var rfl, by omega, fly hb ((e7.trans e8).trans e9)⟩
              · rw [decide_eq_false hmm] at tst
                have hb : rdOne r = some d' := by
                  unfold rdOne
                  rw [h']
                  show (if headW d' = "many" then none else some d') = some d'
                  rw [if_neg hmm]
                refine q_when (b := false) tst (fun ht => Bool.noConfusion ht) (fun _ H9 e9 => ?_)
                have e79 := (e7.trans e8).trans e9
                refine s_app (e79 _ _ hDl) (ev_var rfl) (ev_var rfl) (by rw [List.length_map]; omega) fun H10 e10 => ?_
                have kp : Kp H' (upd H10 D (.lst (ps.map V.ref ++ [.ref q]))) := ⟨fun _ _ h => (Kp.upd ((e79.trans e10) _ _ hDl)).t _ _ ((e79.trans e10) _ _ h), fun _ _ _ h => (Kp.upd ((e79.trans e10) _ _ hDl)).f _ _ _ ((e79.trans e10) _ _ h)⟩
                have kp8 : Kp H8 (upd H10 D (.lst (ps.map V.ref ++ [.ref q]))) := ⟨fun _ _ h => (Kp.upd ((e79.trans e10) _ _ hDl)).t _ _ ((e9.trans e10) _ _ h), fun _ _ _ h => (Kp.upd ((e79.trans e10) _ _ hDl)).f _ _ _ ((e9.trans e10) _ _ h)⟩
                refine ⟨Ex.mut ((e.trans e79).trans e10) nD0, _, _, ps ++ [q], ds ++ [d'], rfl, by rw [List.map_append] <;> exact upd_same, by rw [List.length_append, List.length_append, hpl] <;> rfl, by rw [List.length_append, hdi] <;> rfl, rdSome_snoc hrd hr hb, fun j p' d'' hj hd' => ?_⟩
                by_cases hji : j < ps.length
                · rw [List.getElem?_append_left hji] at hj
                  rw [List.getElem?_append_left (by omega)] at hd'
                  exact DeedV.kp kp (hps j p' d'' hj hd')
                · rw [List.getElem?_append_right (Nat.not_lt.mp hji)] at hj
                  rw [List.getElem?_append_right (by omega), ← hpl] at hd'
                  have hj0 : j - ps.length = 0 := by
                    have := (List.getElem?_eq_some_iff.mp hj).1
                    simp at this
                    omega
                  rw [hj0] at hj hd'
                  cases hj
                  cases hd'
                  exact DeedV.kp kp8 hq
          · rintro σ' H' ⟨e, v5, v6, ps, ds, rfl, hDl, hpl, hdi, hrd, hps⟩
            have hM2 : (1 + (M : Int) - 1).toNat = M := by omega
            rw [hM2] at hrd hdi
            have hall : rdSome (rest.take kk) 1 = .inr ds := by
              rw [← hM, List.take_length] at hrd
              exact hrd
            rw [hall] at er
            have er : rdFrom (r0 :: rest) = (if rest.length < kk then .inl (rest.length + 1) else .inr (.many ds, 1 + kk)) := er
            have tst : EvT (tTest (tOp (rI0 fun i j => V.bl (decide (j < i))) (tVar 4) (tCB (rLenS K) (tCons (tVar 0) tNil)))) [some (.ref a), some (.int 0), some (.ref p), some (.ref D), some (.int (0 + 1 + (kk : Int))), v5, v6] H' (decide (rest.length < kk)) :=
              et_is (et_test (ev_op (ev_var rfl) (ev_len (K := K) (ev_var (v := .ref a) rfl) (ex_l e hx)) rv_I0)) (by
                rw [lr]
                by_cases hq : rest.length < kk
                · rw [decide_eq_true hq, decide_eq_true (by omega)]
                · rw [decide_eq_false hq, decide_eq_false (by omega)])
            by_cases hlk : rest.length < kk
            · rw [if_pos hlk] at er
              rw [decide_eq_true hlk] at tst
              refine q_when (b := true) tst (fun _ H7 e7 => ?_) (fun ht => Bool.noConfusion ht)
              refine ⟨((rest.length + 1 : Nat) : Int), ev_is (ev_len (K := K) (ev_var (v := .ref a) rfl) (ex_l (e.trans e7) hx)) (by rw [lr]), by omega, (kE _ er).ext (e.trans e7)⟩
            · rw [if_neg hlk] at er
              rw [decide_eq_false hlk] at tst
              refine q_when (b := false) tst (fun ht => Bool.noConfusion ht) (fun _ H7 e7 => ?_)
              refine ⟨_, rfl, D, ps.map V.ref, rfl, .inl ⟨sq_of (e7 _ _ hDl), fun l hl => ?_⟩⟩
              have el := Ex.new (o := .tup (ps.map V.ref)) hl
              refine ⟨sz_of (by simp), fun q hq => ⟨_, rfl, sz_of (by simp), fun t ht => ?_⟩⟩
              have eq := Ex.new (o := .tup [V.str "many", .ref l]) hq
              have et := Ex.new (o := .tup [V.ref q, .int (0 + 1 + (kk : Int))]) ht
              refine k _ _ er t q _ (e.trans (((e7.trans el).trans eq).trans et)) ?_ ⟨l, ps, ex_t et (st_of upd_same), ex_t (eq.trans et) (st_of upd_same), hpl, fun j p' d' hj hd' => DeedV.ext (((e7.trans el).trans eq).trans et) (hps j p' d' hj hd')⟩
              rw [show ((1 + kk : Nat) : Int) = 0 + 1 + (kk : Int) by omega]
              exact st_of upd_same
        · rw [if_neg hm] at er
          obtain ⟨xs, hs⟩ := head_plain hp
          refine q_when (b := true) (et_is (et_test (ev_op (ev_op (ev_var rfl) ev_c (rv_ixT (v := .str (headW d)) (ex_t e3 hs) (atI_nat (xs := .str (headW d) :: xs) (j := 0) rfl))) ev_c (rv_ne rfl))) (by simp [hm])) (fun _ H4 e4 => ?_) (fun ht => Bool.noConfusion ht)
          refine s_retU (eu_tup (ea_cons (ev_var rfl) (ea_cons (ev_op (ev_var rfl) ev_c rv_I0) ea_nil)) (by simp)) fun t H5 nt e5 h5 => ?_
          have e35 := (e3.trans e4).trans e5
          exact k _ _ er t p H5 ((e1.trans e2).trans e35) (st_of h5) (DeedV.ext e35 hp)
abbrev sReadDeed : Stmt := top 16
theorem scReadDeed : FnScope ["text", "rows", "deed", "end"] ["text"] (defScope sReadDeed) := ⟨rfl, rfl, rfl, by decide +kernel, rfl, by decide +kernel, by decide +kernel⟩
theorem ok_deedA (F : FnP K "read_deed" sReadDeed f fd) (Er_BadText : ErrR P w K mg base 1 "BadText" C "badtext") (O_read_from : OwnX P w K mg base 5 "read_from" ["rows", "first"] [] (spFromA K C)) (g_len : mg "len" = none) : FnOk P w K mg base (L2.CX P w) 6 f fd ["text"] (spDeedA K C) := by
  have nd := scReadDeed.nd
  refine F.ok scReadDeed (fun vs H Q E h => ?_) (fun cdv A outer s H vs Q E hr h => ⟨_, (pss_cons (ps_set (i := 1) nd rfl (.inl rfl) (pe_split (pv 0) pe_str))
  (pss_cons (ps_asg (Hs.pe_ownT O_read_from hr (by decide) (by rfl) (passes_call (takes_of rfl rfl rfl rfl) (fun _ _ _ _ h => h)) (pa_cons (pv 1) (pa_cons pe_int pa_nil))) (pg_tup rfl (pgs_cons (pg_name (i := 2) nd rfl (.inl rfl)) (pgs_cons (pg_name (i := 3) nd rfl (.inl rfl)) pgs_nil))))
  (pss_cons (ps_if (pt_cmpR op_lt (pv 3) (pe_callB (r := Evl.rLenS K) call_len_seq (by rfl) g_len PySem.boot_len (pa_cons (pv 1) pa_nil)) (nomark _)) (pss_one (ps_raise rfl (takes_of rfl rfl rfl rfl) (Hs.pmk_errR Er_BadText hr (by decide) (by rfl) (pv 3)))) pss_nil)
  (pss_one (ps_ret (pv 2)))))), ?_⟩)
  · obtain ⟨d, rfl, _⟩ := h
    rfl
  · obtain ⟨tx, rfl, hA, kE, k⟩ := h
    obtain ⟨hw, hn⟩ := asc_split (y := "\n") hA (by decide +kernel)
    have hne := split_ne tx "\n"
    unfold rdText at kE k
    refine ⟨_, rfl, ⟨_, rfl⟩, tx, "\n", rfl, rfl, by decide +kernel, sz_of (by have := hA.2; omega), fun p0 hp0 => ?_⟩
    generalize Txt.split tx "\n" = rows at hw hn hne kE k ⊢
    have e0 := Ex.new (o := .lst (rows.map V.str)) hp0
    dsimp only [gName, List.set]
    generalize hH1 : upd H p0 _ = H1
    have h1 : H1 p0 = some (.lst (rows.map V.str)) := by
      rw [← hH1]
      exact upd_same
    rw [hH1] at e0
    refine q_callG (ea_cons (ev_var (v := .ref p0) rfl) (ea_cons ev_c ea_nil)) fun H2 e2 => ⟨p0, rows, rfl, sq_of (e2 _ _ h1), hne, hn, hw, fun b hb => ?_, fun dd n hd t p H3 e3 ht hp => ?_⟩
    · rw [hb] at kE
      exact (kE b rfl).ext (e0.trans e2)
    · rw [hd] at kE k
      have kE : ∀ b : Nat, (if n < rows.length then Sum.inl n else (Sum.inr dd : Sum Nat DD)) = .inl b → FliesR C "badtext" (b : Int) H E := kE
      have k : ∀ d2 : DD, (if n < rows.length then Sum.inl n else (Sum.inr dd : Sum Nat DD)) = .inr d2 → ∀ (p : Addr) (H' : Hp), Ex H H' → DDV K H' p d2 → Q (V.ref p) H' := k
      refine ⟨t, _, rfl, ht, rfl, ?_⟩
      refine ⟨_, _, rfl, _, _, rfl, rfl, ?_⟩
      dsimp only [List.set]
      have tst : EvT (tTest (tOp (rI0 fun i j => V.bl (decide (i < j))) (tVar 3) (tCB (rLenS K) (tCons (tVar 1) tNil)))) [some (.str tx), some (.ref p0), some (.ref p), some (.int (n : Int))] H3 (decide (n < rows.length)) :=
        et_is (et_test (ev_op (ev_var rfl) (ev_len (K := K) (ev_var (v := .ref p0) rfl) (sq_of ((e2.trans e3) _ _ h1))) rv_I0)) (by
          rw [List.length_map]
          by_cases hq : n < rows.length
          · rw [decide_eq_true hq, decide_eq_true (by omega)]
          · rw [decide_eq_false hq, decide_eq_false (by omega)])
      by_cases hnl : n < rows.length
      · rw [decide_eq_true hnl] at tst
        rw [if_pos hnl] at kE
        refine q_when (b := true) tst (fun _ H4 e4 => ?_) (fun ht => Bool.noConfusion ht)
        exact ⟨(n : Int), ev_var rfl, by omega, (kE n rfl).ext (((e0.trans e2).trans e3).trans e4)⟩
      · rw [decide_eq_false hnl] at tst
        rw [if_neg hnl] at k
        refine q_when (b := false) tst (fun ht => Bool.noConfusion ht) (fun _ H4 e4 => ?_)
        refine s_ret (ev_var rfl) fun H5 e5 => ?_
        have e35 := e4.trans e5
        exact k dd rfl p H5 (((e0.trans e2).trans e3).trans e35) (DDV.ext e35 hp)
end
end Hs
namespace Hs
open PySem PySem.Spec PyProof.Rows L2 Evl
/-! ### figures of a word -/
theorem map_ofNat : ∀ {ds : List Nat}, NumText.AllDigits ds → (ds.map Char.ofNat).map Char.toNat = ds
  | [], _ => rfl
  | d :: r, h => by
    have hd := h d List.mem_cons_self
    have ih := map_ofNat (ds := r) fun c hc => h c (List.mem_cons_of_mem _ hc)
    rw [List.map_cons, List.map_cons, ih]
    have k : ∀ c : Fin 128, (Char.ofNat c.val).toNat = c.val := by decide +kernel
    rw [k ⟨d, by omega⟩]
theorem drop48 {ds : List Nat} (h : NumText.AllDigits ds) : NumText.AllDigits (ds.dropWhile (· == 48)) := fun c hc => h c (List.dropWhile_sublist _ |>.subset hc)
theorem numL_all {ds : List Nat} (h : NumText.AllDigits ds) : TL.numL (NumText.digitsVal ds) = if ds.dropWhile (· == 48) = [] then [48] else ds.dropWhile (· == 48) := by
  unfold TL.numL
  rw [NumText.toDigits_all ds h]
  have hd := drop48 h
  cases e : ds.dropWhile (· == 48) with
  | nil =>
    rw [if_pos rfl]
    decide
  | cons c r =>
    rw [if_neg (by simp)]
    rw [e] at hd
    exact map_ofNat hd
theorem numL_digits9 {n : Nat} (h : n < 10 ^ 9) : NumText.AllDigits (TL.numL n) ∧ (TL.numL n).length ≤ 9 ∧ 1 ≤ (TL.numL n).length := ⟨TL.numL_digits _, TL.numL_len (by decide) h, List.length_pos_iff.mpr (TL.numL_ne _)⟩
theorem bare_numS {n : Int} : bare (TL.tl (numS n)) = TL.numL n.natAbs := by
  rw [← bare_tl, figs_of]
theorem numL_zero {m : Nat} {r : List Nat} (h : TL.numL m = 48 :: r) : m = 0 := by
  have hd := TL.numL_digits m
  have z := numL_all hd
  rw [TL.numL_val, h] at z
  have e : (48 :: r).dropWhile (· == 48) = r.dropWhile (· == 48) := rfl
  rw [e] at z
  by_cases hr : r.dropWhile (· == 48) = []
  · rw [if_pos hr] at z
    have hv := TL.numL_val m
    rw [h, z] at hv
    rw [← hv]
    decide
  · rw [if_neg hr] at z
    have l1 : (r.dropWhile (· == 48)).length ≤ r.length := (List.dropWhile_sublist _).length_le
    rw [← z, List.length_cons] at l1
    omega
/-- signs that make a number: one to nine figures, a stroke ahead or none -/
def figW (w : Str) : Prop := 1 ≤ (bare (TL.tl w)).length ∧ (bare (TL.tl w)).length ≤ 9 ∧ NumText.AllDigits (bare (TL.tl w))
theorem num_bad {w : Str} (h : ¬ figW w) : numOf w = none := by
  cases e : numOf w with
  | none => rfl
  | some n =>
    obtain ⟨a, b⟩ := numOf_some e
    refine absurd ?_ h
    unfold figW
    rw [b, bare_numS]
    obtain ⟨h1, h2, h3⟩ := numL_digits9 a
    exact ⟨h3, h2, h1⟩
theorem num_zero {w : Str} {r : List Nat} (hb : bare (TL.tl w) = 48 :: r) (hw : w ≠ "0") : numOf w = none := by
  cases e : numOf w with
  | none => rfl
  | some n =>
    obtain ⟨a, b⟩ := numOf_some e
    rw [b, bare_numS] at hb
    have hz := numL_zero hb
    have hn : n = 0 := by omega
    rw [hn] at b
    exact absurd b (by
      have e0 : numS 0 = "0" := by decide +kernel
      rw [e0]
      exact hw)
theorem num_first {w : Str} {c : Nat} {r : List Nat} (hf : figW w) (hb : bare (TL.tl w) = c :: r) (hc : c ≠ 48) : ∃ v : Int, intText? w = some v ∧ numOf w = some v ∧ w.length ≤ 10 := by
  obtain ⟨h1, h2, h3⟩ := hf
  rw [hb] at h1 h2 h3
  have hv := pow9 h3 h2
  have hd : (c :: r).dropWhile (· == 48) = c :: r := by
    rw [List.dropWhile_cons, if_neg (by simpa using hc)]
  have hn := numL_all h3
  rw [hd, if_neg (by simp)] at hn
  by_cases h45 : ∃ t, TL.tl w = 45 :: t
  · obtain ⟨t, ht⟩ := h45
    have et : t = c :: r := by
      rw [ht] at hb
      exact hb
    rw [et] at ht
    have lw : w.length ≤ 10 := by
      rw [TL.len_tl, ht, List.length_cons]
      omega
    have z := intText_neg (x := w) (cs := c :: r) ht h3 (by simp) (by omega)
    have hpos : 0 < NumText.digitsVal (c :: r) := NumText.digitsVal_pos (by have := h3 c List.mem_cons_self; omega)
    refine ⟨_, z, ?_, lw⟩
    have ew : w = numS (-((NumText.digitsVal (c :: r) : Nat) : Int)) := by
      refine TL.ext_tl ?_
      rw [tl_numS, if_pos (by omega), ht, Int.natAbs_neg, Int.natAbs_natCast, hn]
    rw [← numOf_numS (n := -((NumText.digitsVal (c :: r) : Nat) : Int)) (by omega), ← ew]
  · have e : bare (TL.tl w) = TL.tl w := by
      unfold bare
      split
      · rename_i t q
        exact absurd ⟨t, q⟩ h45
      · rfl
    rw [e] at hb
    have lw : w.length ≤ 9 := by
      rw [TL.len_tl, hb]
      exact h2
    have z := intText_digits (x := w) (by rw [show w.cps.toList = c :: r from hb]; exact h3) (by rw [show w.cps.toList = c :: r from hb]; simp) (by omega)
    rw [show w.cps.toList = c :: r from hb] at z
    refine ⟨_, z, ?_, by omega⟩
    have ew : w = numS ((NumText.digitsVal (c :: r) : Nat) : Int) := by
      refine TL.ext_tl ?_
      rw [tl_numS, if_neg (by omega), hb, Int.natAbs_natCast, hn]
    rw [← numOf_numS (n := ((NumText.digitsVal (c :: r) : Nat) : Int)) (by omega), ← ew]
end Hs
namespace Hs
open PySem PySem.Spec PyProof.Rows L2 Evl
/-! ### the law's own figures of a word -/
theorem ev_chain {σ : L2.St} {H : Hp} {ta tb tc : TE} {i j k : Int} (ha : Ev ta σ H (.int i)) (hb : Ev tb σ H (.int j)) (hc : Ev tc σ H (.int k)) : Ev (tChain (rI0 fun i j => .bl (decide (i ≤ j))) (rI0 fun i j => .bl (decide (i ≤ j))) ta tb tc) σ H (.bl (decide (i ≤ j) && decide (j ≤ k))) := fun H1 e Q q => ha H1 e _ fun H2 e2 => hb H2 (e.trans e2) _ fun H3 e3 => ⟨i, j, rfl, rfl, decide (i ≤ j), rfl, by
  have e13 := e2.trans e3
  cases h : decide (i ≤ j) with
  | true =>
    rw [h, Bool.true_and] at q
    exact hc H3 (e.trans e13) _ fun H4 e4 => ⟨j, k, rfl, rfl, q H4 (e13.trans e4)⟩
  | false =>
    rw [h, Bool.false_and] at q
    exact q H3 e13⟩
theorem el_lcStr {K : PySem.W.Frag} {σ : L2.St} {H : Hp} {te tl : TE} {z : Str} {j : Nat} {vs : List Nat} (v : Nat → V) (h : Ev tl σ H (.str z)) (hz : z.length ≤ 40000) (hw : ∀ x, wipe ((wipe σ vs).set j (some x)) vs = wipe σ vs)
    (he : ∀ (i c : Nat) H1, Ex H H1 → z.cps[i]? = some c → Ev te ((wipe σ vs).set j (some (.str ⟨#[c]⟩))) H1 (v i)) : EvL (tLc (iStr tl) (gName j) tYes te vs) σ H (given z.cps.size (fun _ => true) v) :=
  fun H0 e Q q => h H0 e _ fun H1 e1 => ⟨z, rfl, fun Dl hD =>
    lc_it (walk_str (z := z)) (Cw H1 (fun _ => true) v Dl) ⟨hD, Ex.new hD, upd_same⟩ (fun _ _ _ _ => trivial) (fun i x H3 H4 hi p y => by
      obtain ⟨rfl, c, hc, rfl⟩ := y
      have hi' : i < z.length := hi
      exact ⟨hw _, cw_turn p (by omega) (fun H1 _ Q q => q H1 (Ex.refl H1)) (fun _ => he i c H1 (e.trans e1) hc)⟩)
      (fun H' p => q Dl H' (fresh_back e1 p.1) (e1.trans p.2.1) p.2.2)⟩
theorem tl_cut1 {w : Str} : TL.tl (cutS w none (some 1)) = (TL.tl w).take 1 := by
  have e : TL.tl (cutS w none (some 1)) = ((w.cps.toList.drop (HT.sIx w.length 0 none)).take (HT.sIx w.length w.length (some 1) - HT.sIx w.length 0 none)) := by
    show ((((w.cps.toList.drop (HT.sIx w.length 0 none)).take (HT.sIx w.length w.length (some 1) - HT.sIx w.length 0 none)).toArray).toList) = _
    simp
  have e1 := HT.sIx_nat w.length w.length 1
  rw [show ((1 : Nat) : Int) = 1 from rfl] at e1
  rw [e, e1, HT.sIx_none, List.drop_zero, Nat.sub_zero]
  show (TL.tl w).take (min 1 w.length) = _
  rw [TL.len_tl]
  cases TL.tl w with
  | nil => rfl
  | cons c r => rw [show min 1 (c :: r).length = 1 by rw [List.length_cons]; omega]
theorem tl_cutn {w : Str} {k : Nat} : TL.tl (cutS w (some (k : Int)) none) = (TL.tl w).drop k := by
  have e : TL.tl (cutS w (some (k : Int)) none) = ((w.cps.toList.drop (HT.sIx w.length 0 (some (k : Int)))).take (HT.sIx w.length w.length none - HT.sIx w.length 0 (some (k : Int)))) := by
    show ((((w.cps.toList.drop (HT.sIx w.length 0 (some (k : Int)))).take (HT.sIx w.length w.length none - HT.sIx w.length 0 (some (k : Int)))).toArray).toList) = _
    simp
  rw [e, HT.sIx_nat, HT.sIx_none]
  show ((TL.tl w).drop (min k w.length)).take (w.length - min k w.length) = _
  rw [TL.len_tl]
  by_cases h : k ≤ (TL.tl w).length
  · rw [Nat.min_eq_left h, List.take_of_length_le (by rw [List.length_drop]; omega)]
  · rw [Nat.min_eq_right (by omega), List.drop_eq_nil_of_le (Nat.le_refl _), List.drop_eq_nil_of_le (by omega), List.take_nil]
theorem dash_iff {w : Str} : (cutS w none (some 1) = "-") ↔ (TL.tl w).take 1 = [45] := by
  have e45 : TL.tl ("-" : Str) = [45] := by decide +kernel
  constructor
  · intro h
    rw [← tl_cut1, h, e45]
  · intro h
    refine TL.ext_tl ?_
    rw [tl_cut1, h, e45]
theorem ten_iff {c : Nat} : (c ∈ ("0123456789" : Str).cps.toList) ↔ 48 ≤ c ∧ c ≤ 57 := by
  have e : ("0123456789" : Str).cps.toList = [48, 49, 50, 51, 52, 53, 54, 55, 56, 57] := by decide +kernel
  rw [e]
  simp only [List.mem_cons, List.not_mem_nil, or_false]
  omega
theorem ev_allB {K : PySem.W.Frag} {te : TE} {σ : L2.St} {H : Hp} {bs : List Bool} (h : EvL te σ H (bs.map V.bl)) : Ev (tCB (rAll K) (tCons te tNil)) σ H (.bl (bs.all id)) := fun H1 e Q q => h H1 e _ fun p H2 _ e2 h2 => ⟨p, bs, rfl, sq_of h2, q H2 e2⟩
def spFig : Sp := fun vs H Q _ => ∃ w : Str, vs = [.str w] ∧ Asc w ∧ RetV (((numOf w).map V.int).getD .non) H Q
section
variable {P : Program} {w : World} {K : PySem.W.Frag} {mg : Str → Option Value} {base : Heap} {f : Addr} {fd : FuncData}
abbrev sFig : Stmt := top 23
theorem scFig : FnScope ["_law_word_here", "_law_body", "_law_sign"] ["_law_word_here"] (defScope sFig) := ⟨rfl, rfl, rfl, by decide +kernel, rfl, by decide +kernel, by decide +kernel⟩
theorem ok_fig (F : FnP K "_law_figures" sFig f fd) (g_len : mg "len" = none) (g_all : mg "all" = none) (g_int : mg "int" = none) : FnOk P w K mg base CX0 1 f fd ["_law_word_here"] spFig := by
  have nd := scFig.nd
  refine F.ok scFig (fun vs H Q E h => ?_) (fun cdv A outer s H vs Q E hr h => ⟨_, PSs.nox (pss_cons (ps_set (i := 1) nd rfl (.inl rfl) (pe_ifExp (pt_cmpR op_eq (pe_slice sl_str (pv 0) po_none (po_some pe_int)) pe_str (nomark _)) (pe_slice sl_str (pv 0) (po_some pe_int) po_none) (pv 0)))
  (pss_cons (ps_if (PW.pt (pw_or (pt_not (pt_chain op_le op_le pe_int (pe_callB call_len_str (by rfl) g_len PySem.boot_len (pa_cons (pv 1) pa_nil)) pe_int)) (pw_or1 (pt_not (pt_val (pe_callB (r := rAll K) (cr_all rfl) (by rfl) g_all (by decide +kernel) (pa_cons (pe_lc (own := [("_law_sign", 2)]) rfl nd (pi_str (pv 1)) (blkOk_by (N := ["_law_word_here", "_law_body", "_law_sign"]) (sc := defScope (Hs.top 23)) (by decide +kernel)) (fun _ _ _ _ _ => (pg_name (i := 2) nd rfl (Or.inl rfl))) (fun _ _ _ _ _ => pts_nil) (fun _ _ _ _ _ => (pe_cmpR op_in_sign (pv 2) pe_str (by rfl)))) pa_nil))))))) (pss_one (ps_ret pe_non)) pss_nil)
  (pss_one (ps_ret (pe_ifExp (PW.pt (pw_and (pt_cmpR op_eq (pe_ix (r := rIxS) ix_str (pv 1) pe_int (fun _ _ => rfl)) pe_str (nomark _)) (pw_and1 (pt_cmpR op_ne (pv 0) pe_str (nomark _))))) pe_non (pe_callTy call_int_str (by rfl) g_int (by decide +kernel) (pa_cons (pv 0) pa_nil))))))), ?_⟩)
  · obtain ⟨n, rfl, _⟩ := h
    rfl
  · obtain ⟨w, rfl, hA, k⟩ := h
    have hl := hA.2
    obtain ⟨bd, hb, hbl, hev⟩ : ∃ bd : Str, TL.tl bd = bare (TL.tl w) ∧ bd.length ≤ w.length ∧ Ev (tIf (tTest (tOp rEq (tSl rSlS (tVar 0) tNoPart (tPart (tC (.int 1)))) (tC (.str "-")))) (tSl rSlS (tVar 0) (tPart (tC (.int 1))) tNoPart) (tVar 0)) [some (.str w), none, none] H (.str bd) := by
      have t1 : Ev (tSl rSlS (tVar 0) tNoPart (tPart (tC (.int 1)))) [some (.str w), none, none] H (.str (cutS w none (some 1))) := fun H1 e Q q => ⟨_, rfl, 1, rfl, w, rfl, sz_of (by omega), q H1 (Ex.refl _)⟩
      by_cases h : (TL.tl w).take 1 = [45]
      · refine ⟨cutS w (some 1) none, ?_, cutS_length _ _ _, ev_if (b := true) (et_is (et_test (ev_op t1 ev_c (rv_eq rfl))) (by simp [dash_iff.mpr h])) (fun _ => fun H1 e Q q => ⟨_, rfl, 1, rfl, w, rfl, sz_of (by omega), q H1 (Ex.refl _)⟩) (fun z => Bool.noConfusion z)⟩
        have z := tl_cutn (w := w) (k := 1)
        rw [show ((1 : Nat) : Int) = 1 from rfl] at z
        rw [z]
        cases e : TL.tl w with
        | nil =>
          rw [e] at h
          cases h
        | cons c r =>
          rw [e] at h
          have : c = 45 := List.head_eq_of_cons_eq h
          rw [this]
          rfl
      · refine ⟨w, ?_, Nat.le_refl _, ev_if (b := false) (et_is (et_test (ev_op t1 ev_c (rv_eq rfl))) (by simp [dash_iff, h])) (fun z => Bool.noConfusion z) (fun _ => ev_var rfl)⟩
        cases e : TL.tl w with
        | nil => rfl
        | cons c r =>
          unfold bare
          split
          · rename_i q
            exact absurd (by rw [e, q] <;> rfl) h
          · rfl
    refine q_asg hev fun H1 e1 => ?_
    have lbd : bd.length = (bare (TL.tl w)).length := by rw [TL.len_tl, hb]
    have tst : EvT (tOr (tNot (tTest (tChain (rI0 fun i j => V.bl (decide (i ≤ j))) (rI0 fun i j => V.bl (decide (i ≤ j))) (tC (V.int 1)) (tCB (fun xs H Q => ∃ z, xs = [V.str z] ∧ z.length ≤ sizeLine ∧ Q (V.int ↑z.length) H) (tCons (tVar 1) tNil)) (tC (V.int 9)))))
        (tNot (tB (tCB (rAll K) (tCons (tLc (iStr (tVar 1)) (gName 2) tYes (tOp (fun x y H Q => ∃ c z, x = V.str { cps := #[c] } ∧ y = V.str z ∧ Q (V.bl (decide (c ∈ z.cps.toList))) H) (tVar 2) (tC (V.str "0123456789"))) [2]) tNil))))) [some (.str w), some (.str bd), none] H1 ((!(decide ((1 : Int) ≤ (bd.length : Int)) && decide ((bd.length : Int) ≤ 9))) || !((bare (TL.tl w)).map fun c => decide (c ∈ ("0123456789" : Str).cps.toList)).all id) := by
      refine et_or (et_not (et_test (ev_chain ev_c (fun H2 e2 Q q => ⟨_, rfl, bd, rfl, sz_of (by omega), q H2 (Ex.refl _)⟩) ev_c))) fun _ => et_not (et_B ?_)
      have z := el_lcStr (K := K) (tl := tVar 1) (te := tOp (fun x y H Q => ∃ c z, x = V.str { cps := #[c] } ∧ y = V.str z ∧ Q (V.bl (decide (c ∈ z.cps.toList))) H) (tVar 2) (tC (V.str "0123456789"))) (z := bd) (j := 2) (vs := [2]) (σ := [some (.str w), some (.str bd), none]) (H := H1) (fun i => V.bl (decide ((bare (TL.tl w)).getD i 0 ∈ ("0123456789" : Str).cps.toList))) (ev_var rfl) (by omega) (fun _ => rfl) (fun i c H2 e2 hc => by
        have eg : (bare (TL.tl w)).getD i 0 = c := by
          rw [← hb, List.getD_eq_getElem?_getD]
          show (bd.cps.toList[i]?).getD 0 = c
          rw [Array.getElem?_toList, hc] <;> rfl
        rw [eg]
        exact ev_op (ev_var rfl) ev_c fun H3 e3 Q q => ⟨c, _, rfl, rfl, q H3 (Ex.refl _)⟩)
      have hsz : bd.cps.size = (bare (TL.tl w)).length := lbd
      rw [hsz, given_mapA (g := fun c : Nat => V.bl (decide (c ∈ ("0123456789" : Str).cps.toList))) (d := 0)] at z
      have em : ((bare (TL.tl w)).map fun c => V.bl (decide (c ∈ ("0123456789" : Str).cps.toList))) = ((bare (TL.tl w)).map fun c => decide (c ∈ ("0123456789" : Str).cps.toList)).map V.bl := by
        rw [List.map_map]
        rfl
      rw [em] at z
      exact ev_allB z
    by_cases hf : figW w
    · have hb1 : ((!(decide ((1 : Int) ≤ (bd.length : Int)) && decide ((bd.length : Int) ≤ 9))) || !((bare (TL.tl w)).map fun c => decide (c ∈ ("0123456789" : Str).cps.toList)).all id) = false := by
        obtain ⟨f1, f2, f3⟩ := hf
        rw [decide_eq_true (by omega), decide_eq_true (by omega), List.all_map, List.all_eq_true.mpr]
        · rfl
        · intro c hc
          exact decide_eq_true (ten_iff.mpr (f3 c hc))
      rw [hb1] at tst
      refine q_when (b := false) tst (fun ht => Bool.noConfusion ht) (fun _ H2 e2 => ?_)
      obtain ⟨c, r, hcr⟩ : ∃ c r, bare (TL.tl w) = c :: r := by
        cases e : bare (TL.tl w) with
        | nil =>
          have := hf.1
          rw [e] at this
          exact absurd this (by decide)
        | cons c r => exact ⟨c, r, rfl⟩
      have hat : atI bd.cps.toList 0 = some c := by
        have z : bd.cps.toList = c :: r := by
          rw [← hcr]
          exact hb
        rw [z]
        exact atI_nat (xs := c :: r) (j := 0) rfl
      have e0s : ((⟨#[c]⟩ : Str) = "0") ↔ c = 48 := by
        have z3 : ("0" : Str) = ⟨#[48]⟩ := by decide +kernel
        rw [z3]
        constructor
        · intro z
          have z2 : (⟨#[c]⟩ : Str).cps.toList = (⟨#[48]⟩ : Str).cps.toList := congrArg (fun q : Str => q.cps.toList) z
          exact List.head_eq_of_cons_eq z2
        · rintro rfl
          rfl
      have t2 : EvT (tAnd (tTest (tOp rEq (tOp rIxS (tVar 1) (tC (V.int 0))) (tC (V.str "0")))) (tTest (tOp rNe (tVar 0) (tC (V.str "0"))))) [some (.str w), some (.str bd), none] H2 (decide (c = 48) && !decide (w = "0")) :=
        et_and (et_is (et_test (ev_op (ev_op (ev_var rfl) ev_c (rv_ixS (by omega) hat)) ev_c (rv_eq rfl))) (by simp [e0s])) fun _ => et_is (et_test (ev_op (ev_var (v := .str w) rfl) ev_c (rv_ne rfl))) (by simp)
      by_cases hc : c = 48
      · rw [hc] at hcr
        by_cases hw0 : w = "0"
        · have hn : numOf w = some 0 := by
            have e0 : numS 0 = "0" := by decide +kernel
            rw [hw0, ← e0]
            exact numOf_numS (by decide)
          rw [hn] at k
          have hi : intText? w = some 0 := by
            have e0 : numS 0 = "0" := by decide +kernel
            rw [hw0, ← e0]
            exact numS_reads (by decide)
          have lw : w.length ≤ 640 := by
            rw [hw0]
            decide +kernel
          exact s_ret (ev_if (b := false) (et_is t2 (by rw [decide_eq_true hw0, Bool.not_true, Bool.and_false])) (fun z => Bool.noConfusion z) (fun _ => fun H3 e3 Q q => ⟨_, rfl, w, 0, rfl, hi, lw, q H3 (Ex.refl _)⟩)) fun H3 e3 => k H3 ((e1.trans e2).trans e3)
        · rw [num_zero hcr hw0] at k
          exact s_ret (ev_if (b := true) (et_is t2 (by rw [decide_eq_true hc, decide_eq_false hw0] <;> rfl)) (fun _ => ev_c) (fun z => Bool.noConfusion z)) fun H3 e3 => k H3 ((e1.trans e2).trans e3)
      · obtain ⟨v, hi, hn, lw⟩ := num_first hf hcr hc
        rw [hn] at k
        exact s_ret (ev_if (b := false) (et_is t2 (by rw [decide_eq_false hc, Bool.false_and])) (fun z => Bool.noConfusion z) (fun _ => fun H3 e3 Q q => ⟨_, rfl, w, v, rfl, hi, by omega, q H3 (Ex.refl _)⟩)) fun H3 e3 => k H3 ((e1.trans e2).trans e3)
    · rw [num_bad hf] at k
      have hb1 : ((!(decide ((1 : Int) ≤ (bd.length : Int)) && decide ((bd.length : Int) ≤ 9))) || !((bare (TL.tl w)).map fun c => decide (c ∈ ("0123456789" : Str).cps.toList)).all id) = true := by
        cases h1 : ((!(decide ((1 : Int) ≤ (bd.length : Int)) && decide ((bd.length : Int) ≤ 9))) || !((bare (TL.tl w)).map fun c => decide (c ∈ ("0123456789" : Str).cps.toList)).all id) with
        | true => rfl
        | false =>
          refine absurd ?_ hf
          rw [Bool.or_eq_false_iff] at h1
          obtain ⟨h1, h2⟩ := h1
          simp only [Bool.not_eq_false', Bool.and_eq_true, decide_eq_true_eq] at h1
          simp only [Bool.not_eq_false'] at h2
          rw [List.all_map, List.all_eq_true] at h2
          exact ⟨by omega, by omega, fun c hc => ten_iff.mp (of_decide_eq_true (h2 c hc))⟩
      rw [hb1] at tst
      refine q_when (b := true) tst (fun _ H2 e2 => ?_) (fun ht => Bool.noConfusion ht)
      exact s_ret ev_c fun H3 e3 => k H3 ((e1.trans e2).trans e3)
end
end Hs
namespace Hs
open PySem PySem.Spec PyProof.Rows L2 Evl
/-! ### the figures of all words -/
def figV (o : Option Int) : V := (o.map V.int).getD .non
theorem fig_flat (o : Option Int) : flatV (figV o) = true ∧ eqV (figV o) .non = o.isNone := by
  cases o <;> exact ⟨rfl, rfl⟩
theorem figs_in : ∀ ws : List Str, inV .non (ws.map fun w => figV (numOf w)) = (nums ws).isNone
  | [] => rfl
  | w :: r => by
    have ih := figs_in r
    have e : inV .non ((w :: r).map fun w => figV (numOf w)) = (eqV (figV (numOf w)) .non || inV .non (r.map fun w => figV (numOf w))) := rfl
    rw [e, ih, (fig_flat _).2]
    show _ = (match numOf w, nums r with | some n, some ns => some (n :: ns) | _, _ => none).isNone
    cases numOf w with
    | none => rfl
    | some n => cases nums r <;> rfl
def spFigs (K : PySem.W.Frag) : Sp := fun vs H Q _ => ∃ (a : Addr) (ws : List Str), vs = [.ref a] ∧ SqL K H a (ws.map V.str) ∧ ws.length ≤ 40000 ∧ (∀ w ∈ ws, Asc w) ∧ RetNs (nums ws) H Q
section
variable {P : Program} {w : World} {K : PySem.W.Frag} {mg : Str → Option Value} {base : Heap} {f : Addr} {fd : FuncData}
abbrev sFigs : Stmt := top 24
theorem scFigs : FnScope ["_law_words", "_law_found", "_law_word_here"] ["_law_words"] (defScope sFigs) := ⟨rfl, rfl, rfl, by decide +kernel, rfl, by decide +kernel, by decide +kernel⟩
theorem ok_figs (F : FnP K "_law_figures_all" sFigs f fd) (O__law_figures : Own P w K mg base 1 "_law_figures" ["_law_word_here"] spFig) (g_tuple : mg "tuple" = none) : FnOk P w K mg base CX0 2 f fd ["_law_words"] (spFigs K) := by
  have nd := scFigs.nd
  refine F.ok scFigs (fun vs H Q E h => ?_) (fun cdv A outer s H vs Q E hr h => ⟨_, PSs.nox (pss_cons (ps_setLc (i := 1) (own := [("_law_word_here", 2)]) rfl nd rfl rfl (sw_true rfl rfl rfl (by decide +kernel)) (pi_list (pv 0)) (blkOk_by (N := ["_law_words", "_law_found", "_law_word_here"]) (sc := defScope (Hs.top 24)) (by decide +kernel)) (fun _ _ _ _ _ => (pg_name (i := 2) nd rfl (Or.inl rfl))) (fun _ _ _ _ _ => pts_nil) (fun _ _ _ _ _ => (Hs.pe_own O__law_figures hr (by first | decide | omega) (by rfl) (pa_cons (pv 2) pa_nil))))
  (pss_one (ps_ret (pe_ifExp (pt_cmpR op_in_seq pe_non (pv 1) (by rfl)) pe_non (pe_callTy call_tuple_of (by rfl) g_tuple (by decide +kernel) (pa_cons (pv 1) pa_nil)))))), ?_⟩)
  · obtain ⟨n, ws, rfl, _⟩ := h
    rfl
  · obtain ⟨a, ws, rfl, hx, hl, hA, k⟩ := h
    have key : EvL (tLc (iList K (tVar 0)) (gName 2) tYes (tCall spFig [] E0 (tCons (tVar 2) tNil)) [2]) [some (.ref a), none, none] H (ws.map fun w => figV (numOf w)) := by
      have z := el_lcLs (K := K) (tl := tVar 0) (te := tCall spFig [] E0 (tCons (tVar 2) tNil)) (j := 2) (vs := [2]) (σ := [some (.ref a), none, none]) (fun i => figV (numOf (ws.getD i ""))) (ev_var rfl) hx (by rw [List.length_map]; omega) (fun _ => rfl) (fun i x H2 e2 hi => by
        obtain ⟨w, hwi, rfl⟩ := str_at hi
        have eg : ws.getD i "" = w := by rw [List.getD_eq_getElem?_getD, hwi] <;> rfl
        rw [eg]
        exact ev_call (ea_cons (ev_var rfl) ea_nil) fun H3 e3 Q2 q2 E2 => ⟨w, rfl, hA w (List.mem_of_getElem? hwi), q2⟩)
      rw [List.length_map, given_mapA (g := fun w : Str => figV (numOf w)) (d := ("" : Str))] at z
      exact z
    refine q_asgL key fun D H1 nD e1 hD => ?_
    have hfl : (ws.map fun w => figV (numOf w)).all flatV = true := List.all_eq_true.mpr fun v hv => by
      obtain ⟨w, _, rfl⟩ := List.mem_map.mp hv
      exact (fig_flat _).1
    have tst : EvT (tTest (tOp (rIn K false) (tC V.non) (tVar 1))) [some (.ref a), some (.ref D), none] H1 (nums ws).isNone :=
      et_is (et_test (ev_op ev_c (ev_var rfl) (rv_isL (K := K) (sq_of hD) rfl hfl))) (figs_in ws)
    refine tst H1 (Ex.refl _) _ fun H2 e2 => ?_
    cases hn : nums ws with
    | none =>
      rw [hn] at k
      exact ite_T rfl (k H2 (e1.trans e2))
    | some ns =>
      rw [hn] at k
      obtain ⟨rfl, hb⟩ := nums_some hn
      have ey : ((ns.map numS).map fun w => figV (numOf w)) = ns.map V.int := by
        rw [List.map_map]
        refine List.map_congr_left fun n hm => ?_
        show figV (numOf (numS n)) = _
        rw [numOf_numS (hb n hm)]
        rfl
      rw [ey] at hD
      exact ite_F rfl ⟨_, rfl, D, _, rfl, .inl ⟨sq_of (e2 _ _ hD), fun l hl2 => k l _ (fresh_back (e1.trans e2) hl2) ((e1.trans e2).trans (Ex.new hl2)) upd_same⟩⟩
end
end Hs
namespace Hs
open PySem PySem.Spec PyProof.Rows L2 Evl
/-! ### menus as words -/
theorem joinL_app {s : List Nat} : ∀ {a b : List (List Nat)}, a ≠ [] → b ≠ [] → TL.joinL s (a ++ b) = TL.joinL s a ++ (s ++ TL.joinL s b)
  | [], _, h, _ => absurd rfl h
  | [p], q :: r, _, _ => rfl
  | [_], [], _, h => absurd rfl h
  | p :: q :: r, b, _, hb => by
    have ih := joinL_app (s := s) (a := q :: r) (b := b) (by simp) hb
    show p ++ (s ++ TL.joinL s (q :: r ++ b)) = (p ++ (s ++ TL.joinL s (q :: r))) ++ (s ++ TL.joinL s b)
    rw [ih]
    simp only [List.append_assoc]
def interW {α : Type} (c : α) : List (List α) → List α
  | [] => []
  | [r] => r
  | r :: q :: rs => r ++ c :: interW c (q :: rs)
theorem interW_ne {α : Type} {c : α} : ∀ {rs : List (List α)}, rs ≠ [] → (∀ r ∈ rs, r ≠ []) → interW c rs ≠ []
  | [], h, _ => absurd rfl h
  | [r], _, h => h r (List.mem_singleton.mpr rfl)
  | r :: q :: rs, _, _ => by
    show r ++ c :: interW c (q :: rs) ≠ []
    simp
theorem inter_joinL : ∀ {rs : List (List (List Nat))}, rs ≠ [] → (∀ r ∈ rs, r ≠ []) → TL.joinL [32, 47, 32] (rs.map (TL.joinL [32])) = TL.joinL [32] (interW [47] rs)
  | [], h, _ => absurd rfl h
  | [r], _, _ => rfl
  | r :: q :: rs, _, h => by
    have ih := inter_joinL (rs := q :: rs) (by simp) fun z hz => h z (List.mem_cons_of_mem _ hz)
    have hr := h r List.mem_cons_self
    have hn := interW_ne (c := [47]) (rs := q :: rs) (by simp) fun z hz => h z (List.mem_cons_of_mem _ hz)
    show TL.joinL [32] r ++ ([32, 47, 32] ++ TL.joinL [32, 47, 32] ((q :: rs).map (TL.joinL [32]))) = TL.joinL [32] (r ++ [47] :: interW [47] (q :: rs))
    rw [ih, joinL_app hr (by simp)]
    generalize interW [47] (q :: rs) = zs at hn
    cases zs with
    | nil => exact absurd rfl hn
    | cons z ws => rfl
theorem interW_map {α β : Type} {f : α → β} {c : α} : ∀ rs : List (List α), (interW c rs).map f = interW (f c) (rs.map fun r => r.map f)
  | [] => rfl
  | [r] => rfl
  | r :: q :: rs => by
    show (r ++ c :: interW c (q :: rs)).map f = r.map f ++ f c :: interW (f c) ((q :: rs).map fun r => r.map f)
    rw [List.map_append, List.map_cons, interW_map (q :: rs)]
def menuW (rows : List (List Int)) : List Str := interW "/" (rows.map fun r => r.map numS)
theorem join_menu {rows : List (List Int)} (ne : rows ≠ []) (h : ∀ r ∈ rows, r ≠ []) : Txt.join " / " (rows.map rowS) = Txt.join " " (menuW rows) := by
  have e1 : TL.tl (" / " : Str) = [32, 47, 32] := by decide +kernel
  have e2 : TL.tl ("/" : Str) = [47] := by decide +kernel
  refine TL.ext_tl ?_
  rw [TL.join_eq, TL.join_eq, TL.tl_join, TL.tl_join, e1, sp_tl]
  unfold menuW
  rw [interW_map, e2, List.map_map, List.map_map]
  have e3 : (rows.map (TL.tl ∘ rowS)) = (rows.map fun r => (r.map numS).map TL.tl).map (TL.joinL [32]) := by
    rw [List.map_map]
    refine List.map_congr_left fun r _ => ?_
    show TL.tl (Txt.join " " (r.map numS)) = TL.joinL [32] ((r.map numS).map TL.tl)
    rw [TL.join_eq, TL.tl_join, sp_tl]
  rw [e3]
  refine inter_joinL (fun e => ne (List.map_eq_nil_iff.mp e)) fun r hr => ?_
  obtain ⟨x, hx, rfl⟩ := List.mem_map.mp hr
  exact fun e => h x hx (List.map_eq_nil_iff.mp (List.map_eq_nil_iff.mp e))
theorem menuW_ne {rows : List (List Int)} (ne : rows ≠ []) (h : ∀ r ∈ rows, r ≠ []) : menuW rows ≠ [] :=
  interW_ne (fun e => ne (List.map_eq_nil_iff.mp e)) fun r hr => by
    obtain ⟨x, hx, rfl⟩ := List.mem_map.mp hr
    exact fun e => h x hx (List.map_eq_nil_iff.mp e)
theorem unsure_text {rows : List (List Int)} (ne : rows ≠ []) (h : ∀ r ∈ rows, r ≠ []) : (WD.unsure rows).text = Txt.join " " ("unsure" :: menuW rows) := by
  show "unsure" ++ " " ++ Txt.join " / " (rows.map rowS) = _
  rw [join_menu ne h]
  have hn := menuW_ne ne h
  generalize menuW rows = zs at hn
  cases zs with
  | nil => exact absurd rfl hn
  | cons z r =>
    refine TL.ext_tl ?_
    rw [TL.tl_append, TL.tl_append, TL.join_eq, TL.join_eq, TL.tl_join, TL.tl_join, List.append_assoc]
    rfl
theorem interW_mem {α : Type} {c x : α} : ∀ {rs : List (List α)}, x ∈ interW c rs → x = c ∨ ∃ r ∈ rs, x ∈ r
  | [], h => by cases h
  | [r], h => .inr ⟨r, List.mem_singleton.mpr rfl, h⟩
  | r :: q :: rs, h => by
    rcases List.mem_append.mp (show x ∈ r ++ c :: interW c (q :: rs) from h) with z | z
    · exact .inr ⟨r, List.mem_cons_self, z⟩
    · rcases List.mem_cons.mp z with z | z
      · exact .inl z
      · rcases interW_mem z with y | ⟨r', h1, h2⟩
        · exact .inl y
        · exact .inr ⟨r', List.mem_cons_of_mem _ h1, h2⟩
theorem split_unsure {rows : List (List Int)} (ne : rows ≠ []) (h : ∀ r ∈ rows, r ≠ []) : Txt.split (WD.unsure rows).text " " = ("unsure" : Str) :: menuW rows := by
  rw [unsure_text ne h]
  refine TL.split_join sp_tl sp_kind (by simp) fun p hp => ?_
  rcases List.mem_cons.mp hp with rfl | hp
  · decide +kernel
  · rcases interW_mem hp with rfl | ⟨r, hr, hx⟩
    · decide +kernel
    · obtain ⟨y, _, rfl⟩ := List.mem_map.mp hr
      obtain ⟨n, _, rfl⟩ := List.mem_map.mp hx
      exact numS_free (.inl (by decide))
theorem inter_len {α : Type} {c : α} : ∀ {rs : List (List α)}, rs ≠ [] → (∀ r ∈ rs, r.length = 5) → (interW c rs).length + 1 = 6 * rs.length
  | [], h, _ => absurd rfl h
  | [r], _, h5 => by
    have := h5 r List.mem_cons_self
    show r.length + 1 = 6 * 1
    omega
  | r :: q :: rs, _, h5 => by
    have h := h5 r List.mem_cons_self
    have ih := inter_len (c := c) (rs := q :: rs) (by simp) fun z hz => h5 z (List.mem_cons_of_mem _ hz)
    show (r ++ c :: interW c (q :: rs)).length + 1 = 6 * (rs.length + 1 + 1)
    rw [List.length_append, List.length_cons]
    rw [List.length_cons] at ih
    omega
end Hs
namespace Hs
open PySem PySem.Spec PyProof.Rows L2 Evl
def Row5 (rows : List (List Int)) : Prop := ∀ r ∈ rows, r.length = 5 ∧ ∀ n ∈ r, n.natAbs < 10 ^ 9
theorem chk_of : ∀ {rows : List (List Int)} {f : Nat}, rows ≠ [] → Row5 rows → rows.length ≤ f → chk f (menuW rows) = some rows
  | [], _, h, _, _ => absurd rfl h
  | [r], f, _, h5, hf => by
    obtain ⟨f, rfl⟩ : ∃ g, f = g + 1 := ⟨f - 1, by simp at hf; omega⟩
    obtain ⟨h1, h2⟩ := h5 r (by simp)
    have lw : (r.map numS).length = 5 := by rw [List.length_map, h1]
    show chk (f + 1) (r.map numS) = _
    unfold chk
    rw [List.drop_eq_nil_of_le (by omega), List.take_nil, if_pos (.inl rfl), List.take_of_length_le (by omega), nums_of h2]
    show (if r.length = 5 then _ else _) = _
    rw [if_pos h1, if_neg (by omega)]
  | r :: q :: rs, f, _, h5, hf => by
    obtain ⟨f, rfl⟩ : ∃ g, f = g + 1 := ⟨f - 1, by simp at hf; omega⟩
    obtain ⟨h1, h2⟩ := h5 r (by simp)
    have lw : (r.map numS).length = 5 := by rw [List.length_map, h1]
    have ih := chk_of (rows := q :: rs) (f := f) (by simp) (fun z hz => h5 z (List.mem_cons_of_mem _ hz)) (by simp at hf ⊢; omega)
    have em : menuW (r :: q :: rs) = r.map numS ++ ("/" : Str) :: menuW (q :: rs) := rfl
    rw [em]
    unfold chk
    have d5 : (r.map numS ++ ("/" : Str) :: menuW (q :: rs)).drop 5 = ("/" : Str) :: menuW (q :: rs) := by
      rw [← lw, List.drop_left' rfl]
    have t5 : (r.map numS ++ ("/" : Str) :: menuW (q :: rs)).take 5 = r.map numS := by
      rw [← lw, List.take_left' rfl]
    have d6 : (r.map numS ++ ("/" : Str) :: menuW (q :: rs)).drop 6 = menuW (q :: rs) := by
      rw [show 6 = 5 + 1 from rfl, ← List.drop_drop, d5]
      rfl
    rw [d5, if_pos (.inr rfl), t5, nums_of h2]
    show (if r.length = 5 then _ else _) = _
    rw [if_pos h1, if_pos (by rw [List.length_append, List.length_cons, lw]; omega), d6, ih]
    rfl
theorem chk_to : ∀ {f : Nat} {ws : List Str} {rows : List (List Int)}, chk f ws = some rows → rows ≠ [] ∧ ws = menuW rows ∧ Row5 rows
  | 0, _, _, h => by cases h
  | f + 1, ws, rows, h => by
    unfold chk at h
    split at h
    · rename_i hsep
      split at h
      · rename_i c hc
        obtain ⟨ht, hb⟩ := nums_some hc
        split at h
        · rename_i h5
          split at h
          · rename_i h6
            obtain ⟨rs, hr, rfl⟩ := Option.map_eq_some_iff.mp h
            obtain ⟨i1, i2, i3⟩ := chk_to hr
            have hsl : (ws.drop 5).take 1 = [("/" : Str)] := by
              rcases hsep with z | z
              · have := congrArg List.length z
                rw [List.length_take, List.length_drop, List.length_nil] at this
                omega
              · exact z
            have ed : ws.drop 5 = ("/" : Str) :: ws.drop 6 := by
              cases e : ws.drop 5 with
              | nil =>
                rw [e] at hsl
                cases hsl
              | cons x t =>
                rw [e] at hsl
                have hx : x = "/" := List.head_eq_of_cons_eq hsl
                have ht6 : ws.drop 6 = t := by
                  rw [show 6 = 5 + 1 from rfl, ← List.drop_drop, e]
                  rfl
                rw [hx, ht6]
            refine ⟨by simp, ?_, fun z hz => ?_⟩
            · cases rs with
              | nil => exact absurd rfl i1
              | cons q t =>
                show ws = c.map numS ++ ("/" : Str) :: menuW (q :: t)
                rw [← i2, ← ed, ← ht, List.take_append_drop]
            · rcases List.mem_cons.mp hz with rfl | hz
              · exact ⟨h5, hb⟩
              · exact i3 z hz
          · rename_i h6
            cases h
            refine ⟨by simp, ?_, fun z hz => ?_⟩
            · show ws = c.map numS
              rw [← ht, List.take_of_length_le (by omega)]
            · rw [List.mem_singleton.mp hz]
              exact ⟨h5, hb⟩
        · cases h
      · cases h
    · cases h
theorem chOf_iff {ws : List Str} {rows : List (List Int)} : chOf ws = some rows ↔ rows ≠ [] ∧ ws = menuW rows ∧ Row5 rows := by
  constructor
  · exact chk_to
  · rintro ⟨h1, rfl, h3⟩
    refine chk_of h1 h3 ?_
    have z := inter_len (c := ("/" : Str)) (rs := rows.map fun r => r.map numS) (fun e => h1 (List.map_eq_nil_iff.mp e)) fun z hz => by
      obtain ⟨y, hy, rfl⟩ := List.mem_map.mp hz
      rw [List.length_map]
      exact (h3 y hy).1
    rw [List.length_map] at z
    have z2 : (menuW rows).length + 1 = 6 * rows.length := z
    omega
/-! ### rows with strokes between, split -/
theorem slash_tl : TL.tl (" / " : Str) = [32, 47, 32] := by decide +kernel
theorem slash_kind : (" / " : Str).cps.all (· < 256) = true := by decide +kernel
theorem pre_slash {L : List Nat} (h : TL.pre [32, 47, 32] L = true) : L[1]? = some 47 := by
  cases L with
  | nil => cases h
  | cons a t =>
    cases t with
    | nil =>
      simp [TL.pre] at h
    | cons b u =>
      simp [TL.pre] at h
      simp [h]
theorem spl_slash : ∀ {ps : List (List Nat)}, ps ≠ [] → (∀ p ∈ ps, 47 ∉ p) → TL.spl [32, 47, 32] 0 [] (TL.joinL [32, 47, 32] ps) = ps
  | [], h, _ => absurd rfl h
  | [p], _, h => by
    have hp := h p (by simp)
    show TL.spl [32, 47, 32] 0 [] p = [p]
    have z := TL.spl_last (S := [32, 47, 32]) (p := p) (acc := []) (fun i hi => by
      cases e : TL.pre [32, 47, 32] (p.drop i) with
      | false => rfl
      | true =>
        have z := pre_slash e
        rw [List.getElem?_drop] at z
        exact absurd (List.mem_of_getElem? z) hp)
    rw [z]
    rfl
  | p :: q :: r, _, h => by
    have hp := h p (by simp)
    have ih := spl_slash (ps := q :: r) (by simp) fun z hz => h z (List.mem_cons_of_mem _ hz)
    show TL.spl [32, 47, 32] 0 [] (p ++ ([32, 47, 32] ++ TL.joinL [32, 47, 32] (q :: r))) = _
    rw [TL.spl_part (by simp) (fun i hi => by
      cases e : TL.pre [32, 47, 32] ((p ++ ([32, 47, 32] ++ TL.joinL [32, 47, 32] (q :: r))).drop i) with
      | false => rfl
      | true =>
        have z := pre_slash e
        rw [List.getElem?_drop] at z
        by_cases h1 : i + 1 < p.length
        · rw [List.getElem?_append_left h1] at z
          exact absurd (List.mem_of_getElem? z) hp
        · rw [List.getElem?_append_right (by omega), show i + 1 - p.length = 0 by omega] at z
          cases z), ih]
    rfl
theorem split_slash {ps : List Str} (ne : ps ≠ []) (h : ∀ p ∈ ps, 47 ∉ TL.tl p) : Txt.split (Txt.join " / " ps) " / " = ps := by
  refine TL.map_tl_inj ?_
  rw [TL.split_spl _ _ (by rw [slash_tl]; simp) (TL.kind_ok slash_kind), TL.join_eq, TL.tl_join, slash_tl]
  refine spl_slash (fun e => ne (List.map_eq_nil_iff.mp e)) fun p hp => ?_
  obtain ⟨z, hz, rfl⟩ := List.mem_map.mp hp
  exact h z hz
theorem row_free {r : List Int} : 47 ∉ TL.tl (rowS r) := by
  unfold rowS
  rw [TL.join_eq, TL.tl_join, sp_tl]
  have key : ∀ ps : List (List Nat), (∀ p ∈ ps, 47 ∉ p) → 47 ∉ TL.joinL [32] ps := by
    intro ps
    induction ps with
    | nil => intro _ h; cases h
    | cons p t ih =>
      intro h
      cases t with
      | nil => exact h p (by simp)
      | cons q u =>
        intro hm
        rcases List.mem_append.mp hm with z | z
        · exact h p (by simp) z
        · rcases List.mem_append.mp z with z | z
          · revert z
            decide
          · exact ih (fun y hy => h y (List.mem_cons_of_mem _ hy)) z
  refine key _ fun p hp => ?_
  obtain ⟨x, hx, rfl⟩ := List.mem_map.mp hp
  obtain ⟨n, _, rfl⟩ := List.mem_map.mp hx
  exact numS_free (.inr (.inr (.inr rfl)))
/-! ### the law's reading of a menu -/
/-- the rows that the parts tell -/
noncomputable def partsR : List Str → Option (List (List Int))
  | [] => some []
  | p :: ps => match nums (Txt.split p " "), partsR ps with
    | some r, some rs => if r.length = 5 then some (r :: rs) else none
    | _, _ => none
theorem partsR_some : ∀ {ps : List Str} {rows : List (List Int)}, partsR ps = some rows → ps = rows.map rowS ∧ Row5 rows
  | [], rows, h => by
    cases h
    exact ⟨rfl, fun _ h => by cases h⟩
  | p :: ps, rows, h => by
    unfold partsR at h
    split at h
    · rename_i r rs h1 h2
      split at h
      · rename_i h5
        cases h
        obtain ⟨a, b⟩ := nums_some h1
        obtain ⟨c, d⟩ := partsR_some h2
        have ep : p = rowS r := by
          have z := StrLaws.join_split p " "
          rw [a] at z
          rw [← z, ← TL.join_eq]
          rfl
        refine ⟨by rw [ep, c] <;> rfl, fun z hz => ?_⟩
        rcases List.mem_cons.mp hz with rfl | hz
        · exact ⟨h5, b⟩
        · exact d z hz
      · cases h
    · cases h
theorem split_rowS {r : List Int} (h : r ≠ []) : Txt.split (rowS r) " " = r.map numS := by
  refine TL.split_join sp_tl sp_kind (fun e => h (List.map_eq_nil_iff.mp e)) fun p hp => ?_
  obtain ⟨n, _, rfl⟩ := List.mem_map.mp hp
  exact numS_free (.inl (by decide))
theorem partsR_of : ∀ {rows : List (List Int)}, Row5 rows → partsR (rows.map rowS) = some rows
  | [], _ => rfl
  | r :: rs, h => by
    obtain ⟨h5, hb⟩ := h r (by simp)
    have ih := partsR_of (rows := rs) fun z hz => h z (List.mem_cons_of_mem _ hz)
    show (match nums (Txt.split (rowS r) " "), partsR (rs.map rowS) with | some r, some rs => if r.length = 5 then some (r :: rs) else none | _, _ => none) = _
    rw [split_rowS (fun e => by rw [e] at h5; cases h5), nums_of hb, ih]
    show (if r.length = 5 then _ else _) = _
    rw [if_pos h5]
/-- what stands behind the seventh sign, and whether the first seven are the word -/
def head7 (row : Str) : Prop := (TL.tl row).take 7 = TL.tl ("unsure " : Str)
theorem menu_same {row rest : Str} {ws : List Str} (hs : Txt.split row " " = ("unsure" : Str) :: ws) (hr : TL.tl rest = (TL.tl row).drop 7) (rows : List (List Int)) : chOf ws = some rows ↔ head7 row ∧ partsR (Txt.split rest " / ") = some rows := by
  have e7 : TL.tl ("unsure " : Str) = TL.tl ("unsure" ++ " " : Str) := by decide +kernel
  have l7 : (TL.tl ("unsure" ++ " " : Str)).length = 7 := by decide +kernel
  have n5 : ∀ {rows : List (List Int)}, Row5 rows → ∀ r ∈ rows, r ≠ [] := fun h r hr e => by
    have := (h r hr).1
    rw [e] at this
    cases this
  constructor
  · intro h
    obtain ⟨h1, h2, h3⟩ := chOf_iff.mp h
    have ew : row = (WD.unsure rows).text := by
      rw [unsure_text h1 (n5 h3), ← h2, ← hs, TL.join_eq, StrLaws.join_split]
    have et : TL.tl row = TL.tl ("unsure" ++ " " : Str) ++ TL.tl (Txt.join " / " (rows.map rowS)) := by
      rw [ew]
      show TL.tl ("unsure" ++ " " ++ Txt.join " / " (rows.map rowS)) = _
      rw [TL.tl_append]
    refine ⟨?_, ?_⟩
    · unfold head7
      rw [et, e7, ← l7, List.take_left' rfl]
    · have er : rest = Txt.join " / " (rows.map rowS) := by
        refine TL.ext_tl ?_
        rw [hr, et, ← l7, List.drop_left' rfl]
      rw [er, split_slash (fun e => h1 (List.map_eq_nil_iff.mp e)) (fun p hp => by
        obtain ⟨r, _, rfl⟩ := List.mem_map.mp hp
        exact row_free)]
      exact partsR_of h3
  · rintro ⟨h7, hp⟩
    obtain ⟨h2, h3⟩ := partsR_some hp
    have hne : rows ≠ [] := fun e => split_ne rest " / " (by rw [h2, e] <;> rfl)
    have er : rest = Txt.join " / " (rows.map rowS) := by
      rw [← h2, TL.join_eq, StrLaws.join_split]
    have ew : row = (WD.unsure rows).text := by
      refine TL.ext_tl ?_
      show _ = TL.tl ("unsure" ++ " " ++ Txt.join " / " (rows.map rowS))
      rw [TL.tl_append, ← er, hr, ← e7, ← h7, List.take_append_drop]
    rw [ew, split_unsure hne (n5 h3)] at hs
    exact chOf_iff.mpr ⟨hne, (List.cons.inj hs).2.symm, h3⟩
end Hs
namespace Hs
open PySem PySem.Spec PyProof.Rows L2 Evl
theorem un1 {k : Nat} {A : Around} (r : Room k A) : A.units + 1 < cLine := by
  have := r.un
  omega
end Hs
namespace Hs
open PySem PySem.Spec PyProof.Rows L2 Evl
/-! ### a comprehension over a list that makes values -/
theorem lc_mkL {K : PySem.W.Frag} {σ : L2.St} {H : Hp} {te tl : TE} {xs : List V} {j : Nat} {vs : List Nat} {Q : VK} (R : Nat → V → Hp → Prop) (rk : ∀ i v H1 H2, Kp H1 H2 → R i v H1 → R i v H2) (h : EvL tl σ H xs) (hz : xs.length ≤ 40000) (hw : ∀ x, wipe ((wipe σ vs).set j (some x)) vs = wipe σ vs)
    (hs : ∀ (i : Nat) (x : V) (H' : Hp) (Q' : VK), Ex H H' → xs[i]? = some x → (∀ v H2, Ex H' H2 → R i v H2 → Q' v H2) → te ((wipe σ vs).set j (some x)) H' Q')
    (k : ∀ (D : Addr) (ys : List V) (H' : Hp), H D = none → Ex H H' → H' D = some (.lst ys) → ys.length = xs.length → (∀ i v, ys[i]? = some v → R i v H') → Q (.ref D) H') : tLc (iList K tl) (gName j) tYes te vs σ H Q := by
  refine h H (Ex.refl _) _ fun a H1 na e1 ha => ⟨a, rfl, ⟨_, sq_of ha⟩, fun Dl hDl => ?_⟩
  refine lc_it (walk_list (K := K) (a := a) (xs := xs)) (fun i H' => Ex H1 H' ∧ ∃ acc, H' Dl = some (.lst acc) ∧ acc.length = i ∧ ∀ i' v, acc[i']? = some v → R i' v H') ⟨Ex.new hDl, [], upd_same, rfl, fun _ _ h => by cases h⟩ (fun i H' _ q => sq_of (q.1 _ _ ha)) (fun i x H' H'' hi q y => ?_) (fun H' q => ?_)
  · obtain ⟨rfl, hx⟩ := y
    obtain ⟨e0, acc, h1, h2, h3⟩ := q
    refine ⟨hw _, ?_⟩
    simp only [tYes, if_true]
    refine hs i x _ _ (e1.trans e0) hx fun v H2 e2 hv => ?_
    have hD2 := e2 _ _ h1
    have kp : Kp H2 (upd H2 Dl (.lst (acc ++ [v]))) := Kp.upd hD2
    refine ⟨acc, hD2, sz_lt (by omega), Ex.mut (e0.trans e2) hDl, acc ++ [v], upd_same, by rw [List.length_append, h2] <;> rfl, fun i' u hu => ?_⟩
    by_cases hj : i' < acc.length
    · rw [List.getElem?_append_left hj] at hu
      exact rk _ _ _ _ kp (rk _ _ _ _ (Kp.of e2) (h3 i' u hu))
    · rw [List.getElem?_append_right (by omega)] at hu
      have e0 : i' - acc.length = 0 := by
        have : i' - acc.length < 1 := (List.getElem?_eq_some_iff.mp hu).1
        omega
      rw [e0] at hu
      cases hu
      have ei : i' = i := by omega
      rw [ei]
      exact rk _ _ _ _ kp hv
  · obtain ⟨e, acc, h1, h2, h3⟩ := q
    exact k Dl acc H' (fresh_back e1 hDl) (e1.trans e) h1 h2 h3
abbrev rSplit : V → List V → Hp → VK → Prop := fun x xs H Q => ∃ a b, x = V.str a ∧ xs = [V.str b] ∧ (b.length == 0) = false ∧ a.length + 2 ≤ sizeLine ∧ rNewStrs (Txt.split a b) H Q
theorem el_split {σ : L2.St} {H : Hp} {te : TE} {t y : Str} (h : Ev te σ H (.str t)) (ht : t.length ≤ 50000) (hy : (y.length == 0) = false) : EvL (tM1 rSplit te (tC (.str y))) σ H ((Txt.split t y).map V.str) := fun H1 e Q q =>
  h H1 e _ fun H2 e2 => ⟨⟨_, rfl⟩, t, y, rfl, rfl, hy, sz_of (by omega), fun p hp => q p _ (fresh_back e2 hp) (e2.trans (Ex.new hp)) upd_same⟩
/-- a value that tells a list of numbers, or None -/
def OptT (K : PySem.W.Frag) (H : Hp) (v : V) : Option (List Int) → Prop
  | none => v = .non
  | some ns => ∃ q, v = .ref q ∧ SqT K H q (ns.map V.int)
theorem OptT.kp {K : PySem.W.Frag} {H H' : Hp} {v : V} {o : Option (List Int)} (e : Kp H H') (h : OptT K H v o) : OptT K H' v o := by
  cases o with
  | none => exact h
  | some ns =>
    obtain ⟨q, h1, h2⟩ := h
    exact ⟨q, h1, e.sqt h2⟩
def optD : Option (List Int) → PyData
  | none => .none
  | some ns => .tuple (ns.map PyData.int)
theorem dpAll_ints {K : PySem.W.Frag} {H : Hp} : ∀ ns : List Int, DpAll K H (ns.map V.int) (ns.map PyData.int)
  | [] => .nil
  | n :: ns => .cons (.int n) (dpAll_ints ns)
theorem OptT.dp {K : PySem.W.Frag} {H : Hp} {v : V} {o : Option (List Int)} (h : OptT K H v o) : Dp K H v (optD o) := by
  cases o with
  | none =>
    have h : v = .non := h
    rw [h]
    exact .non
  | some ns =>
    obtain ⟨q, rfl, h2⟩ := h
    exact .tup h2 (dpAll_ints ns)
theorem dpAll_opts {K : PySem.W.Frag} {H : Hp} : ∀ {ys : List V} {os : List (Option (List Int))}, ys.length = os.length → (∀ (i : Nat) (v : V) (o : Option (List Int)), ys[i]? = some v → os[i]? = some o → OptT K H v o) → DpAll K H ys (os.map optD)
  | [], [], _, _ => .nil
  | [], _ :: _, h, _ => by cases h
  | _ :: _, [], h, _ => by cases h
  | y :: ys, o :: os, h, f => .cons (f 0 y o rfl rfl).dp (dpAll_opts (Nat.succ.inj h) fun i v o' h1 h2 => f (i + 1) v o' h1 h2)
theorem ints_lay : ∀ ns : List Int, PyData.canLayAll0 (ns.map PyData.int) = true ∧ PyData.depthAll (ns.map PyData.int) = 0
  | [] => ⟨rfl, rfl⟩
  | n :: ns => by
    obtain ⟨h1, h2⟩ := ints_lay ns
    refine ⟨?_, ?_⟩
    · show (PyData.canLay0 (.int n) && PyData.canLayAll0 (ns.map PyData.int)) = true
      rw [h1]
      rfl
    · show max (PyData.depth (.int n)) (PyData.depthAll (ns.map PyData.int)) = 0
      rw [h2]
      rfl
theorem opts_lay : ∀ os : List (Option (List Int)), PyData.canLayAll0 (os.map optD) = true ∧ PyData.depthAll (os.map optD) ≤ 1
  | [] => ⟨rfl, by decide⟩
  | o :: os => by
    obtain ⟨h1, h2⟩ := opts_lay os
    have ho : PyData.canLay0 (optD o) = true ∧ PyData.depth (optD o) ≤ 1 := by
      cases o with
      | none => exact ⟨rfl, by decide⟩
      | some ns =>
        obtain ⟨a, b⟩ := ints_lay ns
        refine ⟨a, ?_⟩
        show PyData.depthAll (ns.map PyData.int) + 1 ≤ 1
        rw [b]
        exact Nat.le_refl _
    refine ⟨?_, ?_⟩
    · show (PyData.canLay0 (optD o) && PyData.canLayAll0 (os.map optD)) = true
      rw [h1, ho.1]
      rfl
    · show max (PyData.depth (optD o)) (PyData.depthAll (os.map optD)) ≤ 1
      omega
theorem opts_shaped (os : List (Option (List Int))) : SeqAt.shaped (.list (os.map optD)) = true := by
  obtain ⟨h1, h2⟩ := opts_lay os
  unfold SeqAt.shaped
  rw [Bool.and_eq_true]
  refine ⟨h1, decide_eq_true ?_⟩
  show PyData.depthAll (os.map optD) + 1 ≤ 64
  omega
theorem opts_none : ∀ os : List (Option (List Int)), ((os.map optD).any fun z => PyData.eqv z .none) = os.any Option.isNone
  | [] => rfl
  | o :: os => by
    have ih := opts_none os
    rw [List.map_cons, List.any_cons, List.any_cons, ih]
    cases o <;> rfl
def optsOf (ps : List Str) : List (Option (List Int)) → Prop := fun os => os = ps.map fun p => nums (Txt.split p " ")
theorem partsR_bool : ∀ ps : List Str, (partsR ps).isSome = ((ps.map fun p => nums (Txt.split p " ")).all fun o => decide ((o.map List.length) = some 5))
  | [] => rfl
  | p :: ps => by
    have ih := partsR_bool ps
    rw [List.map_cons, List.all_cons, ← ih]
    show (match nums (Txt.split p " "), partsR ps with | some r, some rs => if r.length = 5 then some (r :: rs) else none | _, _ => none).isSome = _
    cases nums (Txt.split p " ") with
    | none => rfl
    | some r =>
      cases partsR ps with
      | none =>
        show false = (_ && false)
        rw [Bool.and_false]
      | some rs =>
        show (if r.length = 5 then some (r :: rs) else none).isSome = (decide ((some r.length) = some 5) && true)
        by_cases h : r.length = 5
        · rw [if_pos h, h]
          rfl
        · rw [if_neg h, decide_eq_false (fun z => h (Option.some.inj z))]
          rfl
theorem partsR_get : ∀ {ps : List Str} {rows : List (List Int)}, partsR ps = some rows → (ps.map fun p => nums (Txt.split p " ")) = rows.map some
  | [], rows, h => by
    cases h
    rfl
  | p :: ps, rows, h => by
    unfold partsR at h
    split at h
    · rename_i r rs h1 h2
      split at h
      · cases h
        rw [List.map_cons, h1, partsR_get h2]
        rfl
      · cases h
    · cases h
end Hs
namespace Hs
open PySem PySem.Spec PyProof.Rows L2 Evl
/-! ### forms of the nine words -/
def dict9 : List (Key × V) := [(.inr "lamp", .int 5), (.inr "post", .int 4), (.inr "pane", .int 5), (.inr "move", .int 4), (.inr "switch", .int 1), (.inr "drop", .int 2), (.inr "look", .int 5), (.inr "strike", .int 1), (.inr "settle", .int 2)]
structure Spec9 (w fm : Str) (a b c : Nat) : Prop where
  ft : FT w = some fm
  cs : fm.cps.toList = List.replicate a 119 ++ (List.replicate b 110 ++ List.replicate c 115)
  dv : valV dict9 (.inr w) = some (.int ((a + b + c : Nat) : Int))
  ia : inV (.str w) [V.str "move", .str "drop"] = decide (a = 1)
  ic : (w = "pane") ↔ c = 1
  ab : a ≤ 1
  cb : c ≤ 1
  pa : c = 1 → a = 0 ∧ b = 4
  bb : b ≤ 5
  ne : w ≠ ""
theorem spec9 {w : Str} (nu : w ≠ "unsure") (nm : w ≠ "many") : (FT w = none ∧ valV dict9 (.inr w) = none) ∨ ∃ (fm : Str) (a b c : Nat), Spec9 w fm a b c := by
  by_cases h1 : w = "lamp"
  · subst h1; exact .inr ⟨"nnnnn", 0, 5, 0, ⟨by decide +kernel, by decide +kernel, by rfl, by decide +kernel, by decide +kernel, by decide, by decide, by decide, by decide, by decide +kernel⟩⟩
  by_cases h2 : w = "post"
  · subst h2; exact .inr ⟨"nnnn", 0, 4, 0, ⟨by decide +kernel, by decide +kernel, by rfl, by decide +kernel, by decide +kernel, by decide, by decide, by decide, by decide, by decide +kernel⟩⟩
  by_cases h3 : w = "pane"
  · subst h3; exact .inr ⟨"nnnns", 0, 4, 1, ⟨by decide +kernel, by decide +kernel, by rfl, by decide +kernel, by decide +kernel, by decide, by decide, by decide, by decide, by decide +kernel⟩⟩
  by_cases h4 : w = "move"
  · subst h4; exact .inr ⟨"wnnn", 1, 3, 0, ⟨by decide +kernel, by decide +kernel, by rfl, by decide +kernel, by decide +kernel, by decide, by decide, by decide, by decide, by decide +kernel⟩⟩
  by_cases h5 : w = "switch"
  · subst h5; exact .inr ⟨"n", 0, 1, 0, ⟨by decide +kernel, by decide +kernel, by rfl, by decide +kernel, by decide +kernel, by decide, by decide, by decide, by decide, by decide +kernel⟩⟩
  by_cases h6 : w = "drop"
  · subst h6; exact .inr ⟨"wn", 1, 1, 0, ⟨by decide +kernel, by decide +kernel, by rfl, by decide +kernel, by decide +kernel, by decide, by decide, by decide, by decide, by decide +kernel⟩⟩
  by_cases h7 : w = "look"
  · subst h7; exact .inr ⟨"nnnnn", 0, 5, 0, ⟨by decide +kernel, by decide +kernel, by rfl, by decide +kernel, by decide +kernel, by decide, by decide, by decide, by decide, by decide +kernel⟩⟩
  by_cases h8 : w = "strike"
  · subst h8; exact .inr ⟨"n", 0, 1, 0, ⟨by decide +kernel, by decide +kernel, by rfl, by decide +kernel, by decide +kernel, by decide, by decide, by decide, by decide, by decide +kernel⟩⟩
  by_cases h9 : w = "settle"
  · subst h9; exact .inr ⟨"nn", 0, 2, 0, ⟨by decide +kernel, by decide +kernel, by rfl, by decide +kernel, by decide +kernel, by decide, by decide, by decide, by decide, by decide +kernel⟩⟩
  refine .inl ⟨?_, ?_⟩
  · unfold FT
    rw [List.find?_eq_none.mpr]
    · rfl
    · intro p hp
      simp only [formsA, List.mem_cons, List.not_mem_nil, or_false] at hp
      intro z
      have z := (of_decide_eq_true z).symm
      rcases hp with rfl | rfl | rfl | rfl | rfl | rfl | rfl | rfl | rfl | rfl | rfl
      · exact h1 z
      · exact nu z
      · exact h2 z
      · exact h3 z
      · exact h4 z
      · exact h5 z
      · exact h6 z
      · exact h7 z
      · exact h8 z
      · exact h9 z
      · exact nm z
  · unfold valV
    rw [List.find?_eq_none.mpr]
    · rfl
    · intro p hp
      simp only [dict9, List.mem_cons, List.not_mem_nil, or_false] at hp
      intro z
      have z := of_decide_eq_true z
      rcases hp with rfl | rfl | rfl | rfl | rfl | rfl | rfl | rfl | rfl <;> (injection z with z)
      · exact h1 z.symm
      · exact h2 z.symm
      · exact h3 z.symm
      · exact h4 z.symm
      · exact h5 z.symm
      · exact h6 z.symm
      · exact h7 z.symm
      · exact h8 z.symm
      · exact h9 z.symm
theorem ths_app : ∀ {c1 : List Nat} {w1 : List Str} {c2 : List Nat} {w2 : List Str}, c1.length = w1.length → thsOf (c1 ++ c2) (w1 ++ w2) = (match thsOf c1 w1, thsOf c2 w2 with | some a, some b => some (a ++ b) | _, _ => none)
  | [], [], c2, w2, _ => by
    show thsOf c2 w2 = (match some [], thsOf c2 w2 with | some a, some b => some (a ++ b) | _, _ => none)
    cases thsOf c2 w2 <;> rfl
  | [], _ :: _, _, _, h => by cases h
  | _ :: _, [], _, _, h => by cases h
  | c :: cs, w :: ws, c2, w2, h => by
    have ih := ths_app (c1 := cs) (w1 := ws) (c2 := c2) (w2 := w2) (Nat.succ.inj h)
    show (match thOf ⟨#[c]⟩ w, thsOf (cs ++ c2) (ws ++ w2) with | some v, some vs => some (v :: vs) | _, _ => none) = (match (match thOf ⟨#[c]⟩ w, thsOf cs ws with | some v, some vs => some (v :: vs) | _, _ => none), thsOf c2 w2 with | some a, some b => some (a ++ b) | _, _ => none)
    rw [ih]
    cases thOf ⟨#[c]⟩ w with
    | none => rfl
    | some v =>
      cases thsOf cs ws with
      | none => rfl
      | some vs => cases thsOf c2 w2 <;> rfl
theorem ths_n : ∀ {B : List Str}, thsOf (List.replicate B.length 110) B = (nums B).map fun ns => ns.map V.int
  | [] => rfl
  | w :: r => by
    have ih := ths_n (B := r)
    have e110 : (⟨#[110]⟩ : Str) = "n" := by decide +kernel
    have et : thOf ⟨#[110]⟩ w = (numOf w).map V.int := by
      unfold thOf
      rw [if_pos e110]
    show (match thOf ⟨#[110]⟩ w, thsOf (List.replicate r.length 110) r with | some v, some vs => some (v :: vs) | _, _ => none) = Option.map _ (match numOf w, nums r with | some n, some ns => some (n :: ns) | _, _ => none)
    rw [ih, et]
    cases numOf w with
    | none => rfl
    | some n => cases nums r <;> rfl
theorem ths_w : ∀ {A : List Str}, thsOf (List.replicate A.length 119) A = if ("" : Str) ∈ A then none else some (A.map V.str)
  | [] => rfl
  | w :: r => by
    have ih := ths_w (A := r)
    have n1 : ¬ (⟨#[119]⟩ : Str) = "n" := by decide +kernel
    have n2 : ¬ (⟨#[119]⟩ : Str) = "s" := by decide +kernel
    have et : thOf ⟨#[119]⟩ w = if w = "" then none else some (.str w) := by
      unfold thOf
      rw [if_neg n1]
      by_cases hw : w = ""
      · rw [if_pos hw, if_pos hw]
      · rw [if_neg hw, if_neg hw, if_neg (fun z => n2 z.1)]
    show (match thOf ⟨#[119]⟩ w, thsOf (List.replicate r.length 119) r with | some v, some vs => some (v :: vs) | _, _ => none) = _
    rw [ih, et]
    by_cases hw : w = ""
    · rw [if_pos hw]
      show none = (if ("" : Str) ∈ w :: r then none else _)
      rw [if_pos (by rw [hw]; exact List.mem_cons_self)]
    · rw [if_neg hw]
      by_cases hr : ("" : Str) ∈ r
      · rw [if_pos hr, if_pos (List.mem_cons_of_mem _ hr)]
      · rw [if_neg hr, if_neg (fun z => by
          rcases List.mem_cons.mp z with z | z
          · exact hw z.symm
          · exact hr z)]
        rfl
def tailV (x : Str) : V := .str (if x = "-" then "" else x)
theorem ths_s : ∀ {C : List Str}, thsOf (List.replicate C.length 115) C = if ("" : Str) ∈ C then none else some (C.map tailV)
  | [] => rfl
  | w :: r => by
    have ih := ths_s (C := r)
    have n1 : ¬ (⟨#[115]⟩ : Str) = "n" := by decide +kernel
    have n2 : (⟨#[115]⟩ : Str) = "s" := by decide +kernel
    have et : thOf ⟨#[115]⟩ w = if w = "" then none else some (tailV w) := by
      unfold thOf tailV
      rw [if_neg n1]
      by_cases hw : w = ""
      · rw [if_pos hw, if_pos hw]
      · rw [if_neg hw, if_neg hw]
        simp only [n2, true_and]
    show (match thOf ⟨#[115]⟩ w, thsOf (List.replicate r.length 115) r with | some v, some vs => some (v :: vs) | _, _ => none) = _
    rw [ih, et]
    by_cases hw : w = ""
    · rw [if_pos hw]
      show none = (if ("" : Str) ∈ w :: r then none else _)
      rw [if_pos (by rw [hw]; exact List.mem_cons_self)]
    · rw [if_neg hw]
      by_cases hr : ("" : Str) ∈ r
      · rw [if_pos hr, if_pos (List.mem_cons_of_mem _ hr)]
      · rw [if_neg hr, if_neg (fun z => by
          rcases List.mem_cons.mp z with z | z
          · exact hw z.symm
          · exact hr z)]
        rfl
theorem numS_nil {n : Int} : numS n ≠ "" := fun e => by
  have z : TL.tl (numS n) = TL.tl ("" : Str) := by rw [e]
  exact numS_ne z
/-- a row of one of the nine words, read -/
theorem rd_nine {w fm : Str} {a b c : Nat} {A B C : List Str} (S : Spec9 w fm a b c) (nu : w ≠ "unsure") (nm : w ≠ "many") (la : A.length = a) (lb : B.length = b) (lc : C.length = c) : (rdW (w :: (A ++ (B ++ C)))).bind (fun d => if headW d = "many" then none else some d) =
    (match nums B with | none => none | some ns => if ("" : Str) ∈ w :: (A ++ (B ++ C)) then none else some (.plain w (A.map V.str ++ (ns.map V.int ++ C.map tailV)))) := by
  have er : rdW (w :: (A ++ (B ++ C))) = if w = "unsure" then (chOf (A ++ (B ++ C))).map WD.unsure else match formOf w with
    | none => none
    | some fm => if fm.cps.size = (A ++ (B ++ C)).length then
        match thsOf fm.cps.toList (A ++ (B ++ C)) with
        | none => none
        | some xs => if w = "many" ∧ negV xs = true then none else some (.plain w xs)
      else none := rfl
  have ef : formOf w = some fm := by
    unfold formOf
    rw [if_neg nm]
    exact S.ft
  have ls : fm.cps.size = (A ++ (B ++ C)).length := by
    rw [← Array.length_toList, S.cs]
    simp only [List.length_append, List.length_replicate]
    omega
  have et : thsOf fm.cps.toList (A ++ (B ++ C)) = (match nums B with | none => none | some ns => if ("" : Str) ∈ w :: (A ++ (B ++ C)) then none else some (A.map V.str ++ (ns.map V.int ++ C.map tailV))) := by
    rw [S.cs, ths_app (by rw [List.length_replicate, la]), ths_app (by rw [List.length_replicate, lb]), ← la, ← lb, ← lc, ths_w, ths_n, ths_s]
    cases hB : nums B with
    | none =>
      by_cases hA : ("" : Str) ∈ A
      · rw [if_pos hA]
      · rw [if_neg hA]
        rfl
    | some ns =>
      obtain ⟨eB, _⟩ := nums_some hB
      have nB : ("" : Str) ∉ B := fun h => by
        rw [eB] at h
        obtain ⟨n, _, hn⟩ := List.mem_map.mp h
        exact numS_nil hn
      have hmem : (("" : Str) ∈ w :: (A ++ (B ++ C))) ↔ ("" : Str) ∈ A ∨ ("" : Str) ∈ C := by
        rw [List.mem_cons, List.mem_append, List.mem_append]
        constructor
        · rintro (h | h | h | h)
          · exact absurd h.symm S.ne
          · exact .inl h
          · exact absurd h nB
          · exact .inr h
        · rintro (h | h)
          · exact .inr (.inl h)
          · exact .inr (.inr (.inr h))
      by_cases hA : ("" : Str) ∈ A
      · rw [if_pos hA]
        show none = (if ("" : Str) ∈ w :: (A ++ (B ++ C)) then none else _)
        rw [if_pos (hmem.mpr (.inl hA))]
      · rw [if_neg hA]
        by_cases hC : ("" : Str) ∈ C
        · rw [if_pos hC]
          show none = (if ("" : Str) ∈ w :: (A ++ (B ++ C)) then none else _)
          rw [if_pos (hmem.mpr (.inr hC))]
        · rw [if_neg hC]
          show some (A.map V.str ++ (ns.map V.int ++ C.map tailV)) = (if ("" : Str) ∈ w :: (A ++ (B ++ C)) then none else _)
          rw [if_neg (fun z => (hmem.mp z).elim hA hC)]
  rw [er, if_neg nu, ef]
  show (if fm.cps.size = (A ++ (B ++ C)).length then (match thsOf fm.cps.toList (A ++ (B ++ C)) with | none => none | some xs => if w = "many" ∧ negV xs = true then none else some (WD.plain w xs)) else none).bind _ = _
  rw [if_pos ls, et]
  cases nums B with
  | none => rfl
  | some ns =>
    by_cases hm : ("" : Str) ∈ w :: (A ++ (B ++ C))
    · show (match (if ("" : Str) ∈ w :: (A ++ (B ++ C)) then none else some (A.map V.str ++ (ns.map V.int ++ C.map tailV))) with | none => none | some xs => if w = "many" ∧ negV xs = true then none else some (WD.plain w xs)).bind _ = (if ("" : Str) ∈ w :: (A ++ (B ++ C)) then none else _)
      rw [if_pos hm, if_pos hm]
      rfl
    · show (match (if ("" : Str) ∈ w :: (A ++ (B ++ C)) then none else some (A.map V.str ++ (ns.map V.int ++ C.map tailV))) with | none => none | some xs => if w = "many" ∧ negV xs = true then none else some (WD.plain w xs)).bind _ = (if ("" : Str) ∈ w :: (A ++ (B ++ C)) then none else _)
      rw [if_neg hm, if_neg hm]
      show (if w = "many" ∧ negV _ = true then none else some (WD.plain w _)).bind _ = _
      rw [if_neg (fun z => nm z.1)]
      show (if headW (WD.plain w _) = "many" then none else some (WD.plain w _)) = _
      rw [if_neg (show ¬ headW (WD.plain w _) = "many" from nm)]
theorem rd_none {w : Str} {ws : List Str} (nu : w ≠ "unsure") (nm : w ≠ "many") (h : FT w = none) : (rdW (w :: ws)).bind (fun d => if headW d = "many" then none else some d) = none := by
  have er : rdW (w :: ws) = if w = "unsure" then (chOf ws).map WD.unsure else match formOf w with
    | none => none
    | some fm => if fm.cps.size = ws.length then
        match thsOf fm.cps.toList ws with
        | none => none
        | some xs => if w = "many" ∧ negV xs = true then none else some (.plain w xs)
      else none := rfl
  have ef : formOf w = none := by
    unfold formOf
    rw [if_neg nm]
    exact h
  rw [er, if_neg nu, ef]
  rfl
theorem rd_long {w fm : Str} {ws : List Str} {a b c : Nat} (S : Spec9 w fm a b c) (nu : w ≠ "unsure") (nm : w ≠ "many") (h : ws.length ≠ a + b + c) : (rdW (w :: ws)).bind (fun d => if headW d = "many" then none else some d) = none := by
  have er : rdW (w :: ws) = if w = "unsure" then (chOf ws).map WD.unsure else match formOf w with
    | none => none
    | some fm => if fm.cps.size = ws.length then
        match thsOf fm.cps.toList ws with
        | none => none
        | some xs => if w = "many" ∧ negV xs = true then none else some (.plain w xs)
      else none := rfl
  have ef : formOf w = some fm := by
    unfold formOf
    rw [if_neg nm]
    exact S.ft
  have ls : ¬ fm.cps.size = ws.length := by
    rw [← Array.length_toList, S.cs]
    simp only [List.length_append, List.length_replicate]
    omega
  rw [er, if_neg nu, ef]
  show (if fm.cps.size = ws.length then (match thsOf fm.cps.toList ws with | none => none | some xs => if w = "many" ∧ negV xs = true then none else some (WD.plain w xs)) else none).bind _ = _
  rw [if_neg ls]
  rfl
theorem rd_many {ws : List Str} : (rdW (("many" : Str) :: ws)).bind (fun d => if headW d = "many" then none else some d) = none := by
  cases h : rdW (("many" : Str) :: ws) with
  | none => rfl
  | some d =>
    show (if headW d = "many" then none else some d) = none
    by_cases hm : headW d = "many"
    · rw [if_pos hm]
    · exfalso
      have er : rdW (("many" : Str) :: ws) = if ("many" : Str) = "unsure" then (chOf ws).map WD.unsure else match formOf "many" with
        | none => none
        | some fm => if fm.cps.size = ws.length then
            match thsOf fm.cps.toList ws with
            | none => none
            | some xs => if ("many" : Str) = "many" ∧ negV xs = true then none else some (.plain "many" xs)
          else none := rfl
      have nmu : ¬ ("many" : Str) = "unsure" := by decide +kernel
      rw [er, if_neg nmu] at h
      split at h
      · cases h
      · split at h
        · split at h
          · cases h
          · split at h
            · cases h
            · cases h
              exact hm rfl
        · cases h
end Hs
namespace Hs
open PySem PySem.Spec PyProof.Rows L2 Evl
abbrev rTupK (K : PySem.W.Frag) : List V → Hp → VK → Prop := fun xs H Q => ∃ p ys, xs = [V.ref p] ∧ ((SqL K H p ys ∧ ∀ l : Addr, H l = none → Q (V.ref l) (upd H l (.tup ys))) ∨ (SqT K H p ys ∧ Q (V.ref p) H))
theorem q_te {te : TE} {i : Nat} {tz : TS} {D : Ends} {σ : L2.St} {H : Hp} (h : te σ H (fun v H1 => tz D (σ.set i (some v)) H1)) : tSeq (tAsg te (gName i)) tz D σ H := h
theorem tup_te {K : PySem.W.Frag} {t : TE} {σ : L2.St} {H : Hp} {Q : VK} (h : t σ H (fun v H1 => rTupK K [v] H1 Q)) : tCB (rTupK K) (tCons t tNil) σ H Q := h
theorem eu_go {te : TE} {σ : L2.St} {H : Hp} {xs : List V} {Q : VK} (h : EvU te σ H xs) (k : ∀ p H1, H p = none → Ex H H1 → H1 p = some (.tup xs) → Q (.ref p) H1) : te σ H Q := h H (Ex.refl _) Q k
theorem eu_tupOf {K : PySem.W.Frag} {t : TE} {σ : L2.St} {H : Hp} {xs : List V} (h : EvL t σ H xs) : EvU (tCB (rTupK K) (tCons t tNil)) σ H xs := fun H1 e Q q =>
  h H1 e _ fun D H2 nD e2 hD => ⟨D, xs, rfl, .inl ⟨sq_of hD, fun l hl => q l _ (fresh_back e2 hl) (e2.trans (Ex.new hl)) upd_same⟩⟩
theorem eu_catT {K : PySem.W.Frag} {ta tb : TE} {σ : L2.St} {H : Hp} {xs ys : List V} (h1 : EvU ta σ H xs) (h2 : EvU tb σ H ys) (hx : xs ≠ []) (hy : ys ≠ []) (hz : xs.length + ys.length ≤ 100000) : EvU (tOp (rCatT K) ta tb) σ H (xs ++ ys) := fun H1 e Q q =>
  h1 H1 e _ fun p1 H2 n2 e2 hp1 => h2 H2 (e.trans e2) _ fun p2 H3 n3 e3 hp2 => ⟨p1, p2, _, _, rfl, rfl, st_of (e3 _ _ hp1), st_of hp2, hx, sz_of hz, fun z => absurd z hy, fun _ p hp => q p _ (fresh_back (e2.trans e3) hp) ((e2.trans e3).trans (Ex.new hp)) upd_same⟩
end Hs
namespace Hs
open PySem PySem.Spec PyProof.Rows L2 Evl
instance {row : Str} : Decidable (head7 row) := inferInstanceAs (Decidable (_ = _))
theorem ret_if {t : TT} {ta tb : TE} {D : Ends} {σ : L2.St} {H : Hp} {b : Bool} (h : EvT t σ H b) (k : ∀ H1, Ex H H1 → if b = true then ta σ H1 D.rt else tb σ H1 D.rt) : tRet (tIf t ta tb) D σ H := h H (Ex.refl _) _ fun H1 e => k H1 e
theorem q_teG {te : TE} {i : Nat} {tz : TS} {D : Ends} {σ : L2.St} {H : Hp} (h : te σ H (fun v H1 => tz D (σ.set i (some v)) H1)) : tSeq (tAsg te (gName i)) tz D σ H := h
theorem tl_cut7 {w : Str} : TL.tl (cutS w none (some 7)) = (TL.tl w).take 7 := by
  have e : TL.tl (cutS w none (some 7)) = ((w.cps.toList.drop (HT.sIx w.length 0 none)).take (HT.sIx w.length w.length (some 7) - HT.sIx w.length 0 none)) := by
    show ((((w.cps.toList.drop (HT.sIx w.length 0 none)).take (HT.sIx w.length w.length (some 7) - HT.sIx w.length 0 none)).toArray).toList) = _
    simp
  have e1 := HT.sIx_nat w.length w.length 7
  rw [show ((7 : Nat) : Int) = 7 from rfl] at e1
  rw [e, e1, HT.sIx_none, List.drop_zero, Nat.sub_zero]
  show (TL.tl w).take (min 7 w.length) = _
  rw [TL.len_tl]
  by_cases h : 7 ≤ (TL.tl w).length
  · rw [Nat.min_eq_left h]
  · rw [Nat.min_eq_right (by omega), List.take_of_length_le (Nat.le_refl _), List.take_of_length_le (by omega)]
theorem asc_sub {x y : Str} (h : Asc x) (hm : ∀ c ∈ TL.tl y, c ∈ TL.tl x) (hl : y.length ≤ x.length) : Asc y := ⟨fun c hc => h.1 c (hm c hc), Nat.le_trans hl h.2⟩
/-- a reading whose answer is a tuple, new or old -/
def EvTp (K : PySem.W.Frag) (te : TE) (σ : L2.St) (H : Hp) (xs : List V) : Prop := ∀ H1, Ex H H1 → ∀ Q : VK, (∀ p H2, Ex H1 H2 → SqT K H2 p xs → Q (.ref p) H2) → te σ H1 Q
theorem EvTp.of {K : PySem.W.Frag} {te : TE} {σ : L2.St} {H : Hp} {xs : List V} (h : EvU te σ H xs) : EvTp K te σ H xs := fun H1 e Q q => h H1 e Q fun p H2 _ e2 hp => q p H2 e2 (st_of hp)
theorem EvTp.var {K : PySem.W.Frag} {i : Nat} {σ : L2.St} {H : Hp} {p : Addr} {xs : List V} (h : σ[i]? = some (some (.ref p))) (hp : SqT K H p xs) : EvTp K (tVar i) σ H xs := fun H1 e Q q => ⟨_, h, q p H1 (Ex.refl _) (ex_t e hp)⟩
theorem EvTp.cat {K : PySem.W.Frag} {ta tb : TE} {σ : L2.St} {H : Hp} {xs ys : List V} (h1 : EvTp K ta σ H xs) (h2 : EvTp K tb σ H ys) (hx : xs ≠ []) (hz : xs.length + ys.length ≤ 100000) : EvTp K (tOp (rCatT K) ta tb) σ H (xs ++ ys) := fun H1 e Q q =>
  h1 H1 e _ fun a H2 e2 ha => h2 H2 (e.trans e2) _ fun b H3 e3 hb => ⟨a, b, xs, ys, rfl, rfl, ex_t e3 ha, hb, hx, sz_of hz, fun z => q a H3 (e2.trans e3) (by rw [z, List.append_nil]; exact ex_t e3 ha), fun _ p hp => q p _ ((e2.trans e3).trans (Ex.new hp)) (st_of upd_same)⟩
theorem ev_lenL {K : PySem.W.Frag} {σ : L2.St} {H : Hp} {ta : TE} {p : Addr} {xs : List V} (ha : Ev ta σ H (.ref p)) (h : SqL K H p xs) : Ev (tCB (rLenS K) (tCons ta tNil)) σ H (.int (xs.length : Int)) := fun H1 e Q q =>
  ha H1 e _ fun H2 e2 => ⟨p, xs, rfl, .inl (ex_l (e.trans e2) h), q H2 e2⟩
theorem strs_flat (ws : List Str) : (ws.map V.str).all flatV = true := by
  rw [List.all_map, List.all_eq_true]
  intro _ _
  rfl
theorem inV_strs {x : Str} : ∀ ws : List Str, inV (.str x) (ws.map V.str) = decide (x ∈ ws)
  | [] => rfl
  | w :: ws => by
    have ih := inV_strs (x := x) ws
    have e : inV (.str x) ((w :: ws).map V.str) = (eqV (.str w) (.str x) || inV (.str x) (ws.map V.str)) := rfl
    rw [e, ih]
    have e2 : eqV (.str w) (.str x) = decide (w = x) := by
      show (w == x) = _
      by_cases h : w = x
      · rw [decide_eq_true h, h]
        exact beq_self_eq_true x
      · rw [decide_eq_false h]
        exact beq_eq_false_iff_ne.mpr h
    rw [e2]
    by_cases h : w = x
    · subst h
      rw [decide_eq_true rfl, Bool.true_or, decide_eq_true List.mem_cons_self]
    · rw [decide_eq_false h, Bool.false_or]
      congr 1
      exact propext ⟨fun z => List.mem_cons_of_mem _ z, fun z => (List.mem_cons.mp z).elim (fun q => absurd q.symm h) id⟩
section
variable {P : Program} {w : World} {K : PySem.W.Frag} {mg : Str → Option Value} {base : Heap} {f : Addr} {fd : FuncData}
def spLRd (K : PySem.W.Frag) : Sp := fun vs H Q _ => ∃ row : Str, vs = [.str row] ∧ Asc row ∧ (rdOne row = none → ∀ H', Ex H H' → Q .non H') ∧ ∀ d, rdOne row = some d → ∀ (p : Addr) (H' : Hp), Ex H H' → DeedV K H' p d → Q (.ref p) H'
abbrev sLRd : Stmt := top 25
theorem scLRd : FnScope ["_law_row", "_law_words", "_law_word_here", "_law_rows", "_law_good", "_law_many", "_law_begin", "_law_end", "_law_numbers", "_law_tail", "_law_part", "_law_one_here"] ["_law_row"] (defScope sLRd) := ⟨rfl, rfl, rfl, by decide +kernel, rfl, by decide +kernel, by decide +kernel⟩
theorem ok_lRd (F : FnP K "_law_read_row" sLRd f fd) (O__law_figures_all : Own P w K mg base 2 "_law_figures_all" ["_law_words"] (spFigs K)) (g_len : mg "len" = none) (g_all : mg "all" = none) (g_tuple : mg "tuple" = none) : FnOk P w K mg base CX0 3 f fd ["_law_row"] (spLRd K) := by
  have nd := scLRd.nd
  refine F.ok scLRd (fun vs H Q E h => ?_) (fun cdv A outer s H vs Q E hr h => ⟨_, PSs.nox (pss_cons (ps_set (i := 1) nd rfl (.inl rfl) (pe_split (pv 0) pe_str))
  (pss_cons (ps_set (i := 2) nd rfl (.inl rfl) (pe_ix (r := rIxL K) ix_list (pv 1) pe_int (fun _ _ => rfl)))
  (pss_cons (ps_if (pt_cmpR op_eq (pv 2) pe_str (nomark _)) (pss_cons (ps_setLc (i := 3) (own := [("_law_part", 10)]) rfl nd rfl rfl (sw_true rfl rfl rfl (by decide +kernel)) (pi_list (pe_split (pe_slice sl_str (pv 0) (po_some pe_int) po_none) pe_str)) (blkOk_by (N := ["_law_row", "_law_words", "_law_word_here", "_law_rows", "_law_good", "_law_many", "_law_begin", "_law_end", "_law_numbers", "_law_tail", "_law_part", "_law_one_here"]) (sc := defScope (Hs.top 25)) (by decide +kernel)) (fun _ _ _ _ _ => (pg_name (i := 10) nd rfl (Or.inl rfl))) (fun _ _ _ _ _ => pts_nil) (fun _ _ _ _ _ => (Hs.pe_own O__law_figures_all hr (by first | decide | omega) (by rfl) (pa_cons (pe_split (pv 10) pe_str) pa_nil))))
  (pss_cons (ps_set (i := 4) nd rfl (.inl rfl) (pe_and (pe_cmpR op_eq (pe_slice sl_str (pv 0) po_none (po_some pe_int)) pe_str (nomark _)) (pe_and (pe_cmpR (op_notInD (Hs.un65 hr)) pe_non (pv 3) (by rfl)) (pe_one (pe_callB (r := rAll K) (cr_all rfl) (by rfl) g_all (by decide +kernel) (pa_cons (pe_lc (own := [("_law_one_here", 11)]) rfl nd (pi_list (pv 3)) (blkOk_by (N := ["_law_row", "_law_words", "_law_word_here", "_law_rows", "_law_good", "_law_many", "_law_begin", "_law_end", "_law_numbers", "_law_tail", "_law_part", "_law_one_here"]) (sc := defScope (Hs.top 25)) (by decide +kernel)) (fun _ _ _ _ _ => (pg_name (i := 11) nd rfl (Or.inl rfl))) (fun _ _ _ _ _ => pts_nil) (fun _ _ _ _ _ => (pe_cmpR op_eq (pe_callB (r := Evl.rLenS K) call_len_seq (by rfl) g_len PySem.boot_len (pa_cons (pv 11) pa_nil)) pe_int (nomark _)))) pa_nil))))))
  (pss_one (ps_ret (pe_ifExp (pt_val (pv 4)) (pe_tup (pa_cons (pv 2) (pa_cons (pe_callTy call_tuple_of (by rfl) g_tuple (by decide +kernel) (pa_cons (pv 3) pa_nil)) pa_nil))) pe_non))))) pss_nil)
  (pss_cons (ps_set (i := 5) nd rfl (.inl rfl) (pe_disp (pps_cons pe_str pe_int (pps_cons pe_str pe_int (pps_cons pe_str pe_int (pps_cons pe_str pe_int (pps_cons pe_str pe_int (pps_cons pe_str pe_int (pps_cons pe_str pe_int (pps_cons pe_str pe_int (pps_cons pe_str pe_int pps_nil))))))))) (by rfl) (by rfl) (by simp) (by decide)))
  (pss_cons (ps_if (PW.pt (pw_or (pt_cmp (pc_dnotin (Hs.un1 hr) (pv 2) (pv 5))) (pw_or1 (pt_cmpR op_ne (pe_callB (r := Evl.rLenS K) call_len_seq (by rfl) g_len PySem.boot_len (pa_cons (pv 1) pa_nil)) (pe_op op_add (pe_dget (Hs.un1 hr) (pv 5) (pv 2) (fun _ _ => rfl)) pe_int) (nomark _))))) (pss_one (ps_ret pe_non)) pss_nil)
  (pss_cons (ps_set (i := 6) nd rfl (.inl rfl) (pe_ifExp (pt_cmpR op_in_seq (pv 2) (pe_tup (pa_cons pe_str (pa_cons pe_str pa_nil))) (by rfl)) pe_int pe_int))
  (pss_cons (ps_set (i := 7) nd rfl (.inl rfl) (pe_ifExp (pt_cmpR op_eq (pv 2) pe_str (nomark _)) pe_int (pe_callB (r := Evl.rLenS K) call_len_seq (by rfl) g_len PySem.boot_len (pa_cons (pv 1) pa_nil))))
  (pss_cons (ps_set (i := 8) nd rfl (.inl rfl) (Hs.pe_own O__law_figures_all hr (by first | decide | omega) (by rfl) (pa_cons (pe_slice sl_list (pv 1) (po_some (pv 6)) (po_some (pv 7))) pa_nil)))
  (pss_cons (ps_if (PW.pt (pw_or (pt_cmpR op_isN (pv 8) pe_non (nomark _)) (pw_or1 (pt_cmpR op_in_seq pe_str (pv 1) (by rfl))))) (pss_one (ps_ret pe_non)) pss_nil)
  (pss_cons (ps_set (i := 9) nd rfl (.inl rfl) (pe_callTy call_tuple_of (by rfl) g_tuple (by decide +kernel) (pa_cons (pe_lc (own := [("_law_one_here", 11)]) rfl nd (pi_list (pe_slice sl_list (pv 1) (po_some (pv 7)) po_none)) (blkOk_by (N := ["_law_row", "_law_words", "_law_word_here", "_law_rows", "_law_good", "_law_many", "_law_begin", "_law_end", "_law_numbers", "_law_tail", "_law_part", "_law_one_here"]) (sc := defScope (Hs.top 25)) (by decide +kernel)) (fun _ _ _ _ _ => (pg_name (i := 11) nd rfl (Or.inl rfl))) (fun _ _ _ _ _ => pts_nil) (fun _ _ _ _ _ => (pe_ifExp (pt_cmpR op_eq (pv 11) pe_str (nomark _)) pe_str (pv 11)))) pa_nil)))
  (pss_one (ps_ret (pe_op (r := rCatT K) op_catT (pe_op (r := rCatT K) op_catT (pe_op (r := rCatT K) op_catT (pe_tup (pa_cons (pv 2) pa_nil)) (pe_callTy call_tuple_of (by rfl) g_tuple (by decide +kernel) (pa_cons (pe_slice sl_list (pv 1) (po_some pe_int) (po_some (pv 6))) pa_nil))) (pv 8)) (pv 9)))))))))))))), ?_⟩)
  · obtain ⟨n, rfl, _⟩ := h
    rfl
  · obtain ⟨row, rfl, hA, k0, k1⟩ := h
    have hl := hA.2
    obtain ⟨hw, hn⟩ := asc_split (y := " ") hA (by decide +kernel)
    have hne := split_ne row " "
    refine q_asgL (el_split (ev_var rfl) (by omega) (by decide +kernel)) fun W H1 nW e1 hW => ?_
    have eo : rdOne row = (rdW (Txt.split row " ")).bind fun d => if headW d = "many" then none else some d := rfl
    have esw : Txt.split row " " = Txt.split row " " := rfl
    revert eo
    generalize hsw : Txt.split row " " = sw at hw hn hne hW ⊢
    intro eo
    cases sw with
    | nil => exact absurd rfl hne
    | cons wd ws =>
      refine q_asg (ev_op (ev_var rfl) ev_c (rv_ixL (K := K) (v := .str wd) (sq_of hW) (atI_nat (xs := (wd :: ws).map V.str) (j := 0) rfl))) fun H2 e2 => ?_
      rw [List.length_cons] at hn
      have haw : ∀ w ∈ ws, Asc w := fun w hm => hw w (List.mem_cons_of_mem _ hm)
      have er : rdW (wd :: ws) = if wd = "unsure" then (chOf ws).map WD.unsure else match formOf wd with
        | none => none
        | some fm => if fm.cps.size = ws.length then
            match thsOf fm.cps.toList ws with
            | none => none
            | some xs => if wd = "many" ∧ negV xs = true then none else some (.plain wd xs)
          else none := rfl
      by_cases nu : wd = "unsure"
      · subst nu
        rw [er, if_pos rfl] at eo
        refine q_when (b := true) (et_is (et_test (ev_op (ev_var (v := .str "unsure") rfl) ev_c (rv_eq rfl))) (by simp)) (fun _ H3 e3 => ?_) (fun ht => Bool.noConfusion ht)
        have hrt := tl_cutn (w := row) (k := 7)
        rw [show ((7 : Nat) : Int) = 7 from rfl] at hrt
        have hsame := menu_same hsw hrt
        have hAr : Asc (cutS row (some 7) none) := asc_sub hA (fun c hc => by rw [hrt] at hc; exact List.mem_of_mem_drop hc) (cutS_length _ _ _)
        obtain ⟨hpw, hpn⟩ := asc_split (y := " / ") hAr (by decide +kernel)
        generalize hps : Txt.split (cutS row (some 7) none) " / " = parts at hpw hpn hsame
        have hev : EvL (tM1 rSplit (tSl rSlS (tVar 0) (tPart (tC (V.int 7))) tNoPart) (tC (V.str " / "))) [some (.str row), some (.ref W), some (.str "unsure"), none, none, none, none, none, none, none, none, none] H3 (parts.map V.str) := by
          have z := el_split (σ := [some (.str row), some (.ref W), some (.str "unsure"), none, none, none, none, none, none, none, none, none]) (H := H3) (te := tSl rSlS (tVar 0) (tPart (tC (V.int 7))) tNoPart) (t := cutS row (some 7) none) (y := " / ") (fun H4 e4 Q4 q4 => ⟨_, rfl, 7, rfl, row, rfl, sz_of (by omega), q4 H4 (Ex.refl _)⟩) (by have := cutS_length row (some 7) none; omega) (by decide +kernel)
          rw [hps] at z
          exact z
        refine q_teG (lc_mkL (K := K) (fun i v H => ∀ p, parts[i]? = some p → OptT K H v (nums (Txt.split p " "))) (fun i v _ _ kp h p hp => (h p hp).kp kp) hev (by rw [List.length_map]; omega) (fun _ => rfl) (fun i x H' Q' e' hi kq => ?_) (fun D ys H4 nD e4 hD hly hys => ?_))
        · obtain ⟨p, hp, rfl⟩ := str_at hi
          have hap := hpw p (List.mem_of_getElem? hp)
          obtain ⟨ha1, ha2⟩ := asc_split (y := " ") hap (by decide +kernel)
          have kq' : ∀ v H2, Ex H' H2 → OptT K H2 v (nums (Txt.split p " ")) → Q' v H2 := fun v H2 e hv => kq v H2 e fun p' hp' => by
            rw [hp] at hp'
            cases hp'
            exact hv
          have hal := hap.2
          refine ⟨_, rfl, ⟨_, rfl⟩, p, " ", rfl, rfl, by decide +kernel, sz_of (by omega), fun l hl2 => ?_⟩
          have el := Ex.new (o := .lst ((Txt.split p " ").map V.str)) hl2
          refine ⟨l, _, rfl, sq_of upd_same, by omega, ha1, ?_⟩
          cases hns : nums (Txt.split p " ") with
          | none =>
            rw [hns] at kq'
            exact fun H5 e5 => kq' .non H5 (el.trans e5) rfl
          | some ns =>
            rw [hns] at kq'
            exact fun q H5 nq e5 hq => kq' (.ref q) H5 (el.trans e5) ⟨q, rfl, st_of hq⟩
        · rw [List.length_map] at hly
          have hopt : ∀ (i : Nat) (v : V) (o : Option (List Int)), ys[i]? = some v → (parts.map fun p => nums (Txt.split p " "))[i]? = some o → OptT K H4 v o := fun i v o hv ho => by
            rw [List.getElem?_map] at ho
            obtain ⟨p, hp, rfl⟩ := Option.map_eq_some_iff.mp ho
            exact hys i v hv p hp
          have e14 := ((e1.trans e2).trans e3).trans e4
          have good : Ev (tAndV (tOp rEq (tSl rSlS (tVar 0) tNoPart (tPart (tC (V.int 7)))) (tC (V.str "unsure "))) (tAndV (tOp (rNotInD K) (tC V.non) (tVar 3)) (tCB (rAll K) (tCons (tLc (iList K (tVar 3)) (gName 11) tYes (tOp rEq (tCB (rLenS K) (tCons (tVar 11) tNil)) (tC (V.int 5))) [11]) tNil)))) [some (.str row), some (.ref W), some (.str "unsure"), some (.ref D), none, none, none, none, none, none, none, none] H4 (.bl (decide (head7 row) && (partsR parts).isSome)) := by
            refine ev_andV (ev_is (ev_op (fun H5 e5 Q5 q5 => ⟨_, rfl, 7, rfl, row, rfl, sz_of (by omega), q5 H5 (Ex.refl _)⟩ : Ev (tSl rSlS (tVar 0) tNoPart (tPart (tC (V.int 7)))) _ _ (.str (cutS row none (some 7)))) ev_c (rv_eq rfl)) (by
              congr 1
              by_cases h7 : head7 row
              · rw [decide_eq_true h7]
                refine decide_eq_true (congrArg V.str (TL.ext_tl ?_))
                rw [tl_cut7]
                exact h7
              · rw [decide_eq_false h7]
                refine decide_eq_false fun z => h7 ?_
                injection z with z
                unfold head7
                rw [← tl_cut7, z])) fun _ => ?_
            have bp := partsR_bool parts
            have b2 : Ev (tOp (rNotInD K) (tC V.non) (tVar 3)) [some (.str row), some (.ref W), some (.str "unsure"), some (.ref D), none, none, none, none, none, none, none, none] H4 (.bl (!((parts.map fun p => nums (Txt.split p " ")).any Option.isNone))) :=
              ev_op ev_c (ev_var rfl) fun H5 e5 Q5 q5 => ⟨.none, _, .non, .lst (sq_of (e5 _ _ hD)) (dpAll_opts (by rw [List.length_map, hly]) fun i v o hv ho => (hopt i v o hv ho).kp (Kp.of e5)), by decide +kernel, opts_shaped _, by rw [opts_none]; exact q5 H5 (Ex.refl _)⟩
            refine ev_is (ev_andV (b := (parts.map fun p => nums (Txt.split p " ")).all fun o => decide ((o.map List.length).getD 0 = 5)) b2 fun hnn => ?_) ?_
            · have hall : ∀ o ∈ (parts.map fun p => nums (Txt.split p " ")), o.isSome = true := fun o ho => by
                rw [Bool.not_eq_true'] at hnn
                rw [List.any_eq_false] at hnn
                have z := hnn o ho
                cases o with
                | none => exact absurd rfl z
                | some _ => rfl
              have z := el_lcLs (K := K) (tl := tVar 3) (te := tOp rEq (tCB (rLenS K) (tCons (tVar 11) tNil)) (tC (V.int 5))) (j := 11) (vs := [11]) (σ := [some (.str row), some (.ref W), some (.str "unsure"), some (.ref D), none, none, none, none, none, none, none, none]) (H := H4) (fun i => V.bl (decide ((((parts.map fun p => nums (Txt.split p " ")).getD i none).map List.length).getD 0 = 5))) (ev_var rfl) (sq_of hD) (by omega) (fun _ => rfl) (fun i x H5 e5 hi => by
                have hlt := (List.getElem?_eq_some_iff.mp hi).1
                obtain ⟨o, ho⟩ : ∃ o, (parts.map fun p => nums (Txt.split p " "))[i]? = some o := ⟨_, List.getElem?_eq_getElem (by rw [List.length_map]; omega)⟩
                have eg : (parts.map fun p => nums (Txt.split p " ")).getD i none = o := by rw [List.getD_eq_getElem?_getD, ho] <;> rfl
                rw [eg]
                have hos := hall o (List.mem_of_getElem? ho)
                cases o with
                | none => cases hos
                | some ns =>
                  obtain ⟨q, rfl, hq⟩ := hopt i x _ hi ho
                  refine ev_is (ev_op (ev_lenT (K := K) (ev_var (v := .ref q) rfl) (ex_t e5 hq)) ev_c (rv_eq rfl)) ?_
                  congr 1
                  rw [List.length_map]
                  show decide (V.int (ns.length : Int) = .int 5) = decide (ns.length = 5)
                  by_cases h5 : ns.length = 5
                  · rw [h5]
                    exact (decide_eq_true rfl).trans (decide_eq_true rfl).symm
                  · rw [decide_eq_false h5, decide_eq_false (fun z => h5 (by injection z with z; omega))])
              have ly2 : ys.length = (parts.map fun p => nums (Txt.split p " ")).length := by rw [List.length_map, hly]
              rw [ly2, given_mapA (g := fun o : Option (List Int) => V.bl (decide ((o.map List.length).getD 0 = 5))) (d := (none : Option (List Int)))] at z
              have em : ∀ os : List (Option (List Int)), (os.map fun o : Option (List Int) => V.bl (decide ((o.map List.length).getD 0 = 5))) = (os.map fun o : Option (List Int) => decide ((o.map List.length).getD 0 = 5)).map V.bl := fun os => by
                rw [List.map_map]
                rfl
              rw [em] at z
              have z2 := ev_allB (K := K) z
              have ea : ∀ os : List (Option (List Int)), (os.map fun o : Option (List Int) => decide ((o.map List.length).getD 0 = 5)).all id = os.all fun o => decide ((o.map List.length).getD 0 = 5) := fun os => by
                rw [List.all_map]
                rfl
              rw [ea] at z2
              exact z2
            · rw [bp]
              congr 1
              generalize (parts.map fun p => nums (Txt.split p " ")) = os
              induction os with
              | nil => rfl
              | cons o t ih =>
                rw [List.any_cons, List.all_cons, List.all_cons, ← ih]
                cases o with
                | none => rfl
                | some ns =>
                  show (!(false || t.any Option.isNone) && (decide (ns.length = 5) && _)) = (decide (some ns.length = some 5) && _)
                  rw [Bool.false_or]
                  have e5 : decide (some ns.length = some 5) = decide (ns.length = 5) := by simp
                  rw [e5]
                  cases t.any Option.isNone <;> cases decide (ns.length = 5) <;> rfl
          refine q_asg good fun H5 e5 => ?_
          refine ret_if (b := decide (head7 row) && (partsR parts).isSome) (et_B (ev_var rfl)) fun H6 e6 => ?_
          have e46 := e5.trans e6
          cases hch : chOf ws with
          | none =>
            rw [hch] at eo
            have hb : (decide (head7 row) && (partsR parts).isSome) = false := by
              cases hp : partsR parts with
              | none => rw [Option.isSome_none, Bool.and_false]
              | some rows =>
                have nh : ¬ head7 row := fun h7 => by
                  have z := (hsame rows).mpr ⟨h7, hp⟩
                  rw [hch] at z
                  cases z
                rw [decide_eq_false nh, Bool.false_and]
            exact ite_F hb (k0 eo H6 (e14.trans e46))
          | some rows =>
            rw [hch] at eo
            obtain ⟨h7, hp⟩ := (hsame rows).mp hch
            have hb : (decide (head7 row) && (partsR parts).isSome) = true := by
              rw [decide_eq_true h7, hp]
              rfl
            have hg := partsR_get hp
            rw [hg] at hopt
            have lyr : ys.length = rows.length := by
              have z := congrArg List.length hg
              rw [List.length_map, List.length_map] at z
              omega
            obtain ⟨ps, hps2, hlps, hpsv⟩ : ∃ ps : List Addr, ys = ps.map V.ref ∧ ps.length = rows.length ∧ ∀ (i : Nat) (p : Addr) (r : List Int), ps[i]? = some p → rows[i]? = some r → SqT K H4 p (r.map V.int) := by
              clear hb hg hp h7 hch eo good hys hD hly hsame
              revert lyr hopt
              generalize rows = rs
              intro hopt lyr
              induction ys generalizing rs with
              | nil =>
                cases rs with
                | nil => exact ⟨[], rfl, rfl, fun _ _ _ h _ => by cases h⟩
                | cons _ _ => cases lyr
              | cons y t ih =>
                cases rs with
                | nil => cases lyr
                | cons r rt =>
                  obtain ⟨ps, h1, h2, h3⟩ := ih rt (fun i v o hv ho => hopt (i + 1) v o hv ho) (Nat.succ.inj lyr)
                  obtain ⟨q, hq1, hq2⟩ := hopt 0 y (some r) rfl rfl
                  refine ⟨q :: ps, by rw [hq1, h1] <;> rfl, by rw [List.length_cons, List.length_cons, h2], fun i p r' hp hr => ?_⟩
                  cases i with
                  | zero =>
                    cases hp
                    cases hr
                    exact hq2
                  | succ i => exact h3 i p r' hp hr
            refine ite_T hb ⟨_, rfl, _, rfl, D, ys, rfl, .inl ⟨sq_of (e46 _ _ hD), fun c hc => ⟨sz_of (by simp), fun t ht => ?_⟩⟩⟩
            have ec := Ex.new (o := .tup ys) hc
            have et := Ex.new (o := .tup [V.str "unsure", .ref c]) ht
            refine k1 (.unsure rows) eo t _ (e14.trans ((e46.trans ec).trans et)) ⟨c, ps, st_of upd_same, ?_, hlps, fun i q r hq hr => ex_t ((e46.trans ec).trans et) (hpsv i q r hq hr)⟩
            rw [← hps2]
            exact ex_t et (st_of upd_same)
      · refine q_when (b := false) (et_is (et_test (ev_op (ev_var (v := .str wd) rfl) ev_c (rv_eq rfl))) (by simp [nu])) (fun ht => Bool.noConfusion ht) (fun _ H3 e3 => ?_)
        refine q_te fun dp hdp => ⟨upd_same, dict9, rfl, by decide, ?_⟩
        have em : mergeK [] dict9 = dict9 := by rfl
        rw [em]
        have ed : Ex H3 (upd (upd H3 dp (.dK [])) dp (.dK dict9)) := Ex.mut (Ex.new hdp) hdp
        generalize hH4 : upd (upd H3 dp (.dK [])) dp (.dK dict9) = H4
        have hdp4 : H4 dp = some (.dK dict9) := by
          rw [← hH4]
          exact upd_same
        rw [hH4] at ed
        have e14 : Ex H H4 := ((e1.trans e2).trans e3).trans ed
        have hW4 := ed _ _ (e3 _ _ (e2 _ _ hW))
        clear hW e1 e2 e3 ed hH4 em hdp
        have tNot : Ev (tDNotIn (tVar 2) (tVar 5)) [some (.str row), some (.ref W), some (.str wd), none, none, some (.ref dp), none, none, none, none, none, none] H4 (.bl (!(valV dict9 (.inr wd)).isSome)) := fun H7 e7 Q7 q7 => ⟨_, rfl, _, rfl, dp, _, rfl, DGet.k (k := .inr wd) (e7 _ _ hdp4), q7 H7 (Ex.refl _)⟩
        by_cases nm : wd = "many"
        · subst nm
          have hv : valV dict9 (.inr "many") = none := rfl
          rw [hv] at tNot
          exact q_when (b := true) (et_is (et_or (b := false) (et_B tNot) (fun z => Bool.noConfusion z)) rfl) (fun _ H5 e5 => s_ret ev_c fun H6 e6 => k0 (by rw [eo]; exact rd_many) H6 ((e14.trans e5).trans e6)) (fun ht => Bool.noConfusion ht)
        rcases spec9 nu nm with ⟨hf, hv⟩ | ⟨fm, a, b, c, S⟩
        · rw [hv] at tNot
          exact q_when (b := true) (et_is (et_or (b := false) (et_B tNot) (fun z => Bool.noConfusion z)) rfl) (fun _ H5 e5 => s_ret ev_c fun H6 e6 => k0 (by rw [eo]; exact rd_none nu nm hf) H6 ((e14.trans e5).trans e6)) (fun ht => Bool.noConfusion ht)
        rw [S.dv] at tNot
        have hg : Ev (tOp (rI0 fun i j => V.int (i + j)) (tDGet (tVar 5) (tVar 2)) (tC (V.int 1))) [some (.str row), some (.ref W), some (.str wd), none, none, some (.ref dp), none, none, none, none, none, none] H4 (.int (((a + b + c : Nat) : Int) + 1)) :=
          ev_op (x := .int ((a + b + c : Nat) : Int)) (fun H7 e7 Q7 q7 => ⟨_, rfl, _, rfl, dp, .int ((a + b + c : Nat) : Int), rfl, by
            have g := DGet.k (k := .inr wd) (e7 _ _ hdp4)
            rw [S.dv] at g
            exact g, q7 H7 (Ex.refl _)⟩) ev_c (fun H7 _ Q7 q7 => ⟨_, _, rfl, rfl, q7 H7 (Ex.refl _)⟩)
        have t2 : EvT (tTest (tOp rNe (tCB (rLenS K) (tCons (tVar 1) tNil)) (tOp (rI0 fun i j => V.int (i + j)) (tDGet (tVar 5) (tVar 2)) (tC (V.int 1))))) [some (.str row), some (.ref W), some (.str wd), none, none, some (.ref dp), none, none, none, none, none, none] H4 (!decide (ws.length = a + b + c)) :=
          et_is (et_test (ev_op (ev_lenL (K := K) (ev_var rfl) (sq_of hW4)) hg (rv_ne rfl))) (by
            congr 1
            rw [List.length_map, List.length_cons]
            by_cases h : ws.length = a + b + c
            · rw [decide_eq_true h, h]
              exact decide_eq_true rfl
            · rw [decide_eq_false h]
              exact decide_eq_false fun z => h (by injection z with z; omega))
        by_cases hlen : ws.length ≠ a + b + c
        · rw [decide_eq_false hlen] at t2
          exact q_when (b := true) (et_is (et_or (et_B tNot) (fun _ => t2)) rfl) (fun _ H5 e5 => s_ret ev_c fun H6 e6 => k0 (by rw [eo]; exact rd_long S nu nm hlen) H6 ((e14.trans e5).trans e6)) (fun ht => Bool.noConfusion ht)
        have hlen : ws.length = a + b + c := Decidable.not_not.mp hlen
        rw [decide_eq_true hlen] at t2
        refine q_when (b := false) (et_is (et_or (et_B tNot) (fun _ => t2)) rfl) (fun ht => Bool.noConfusion ht) (fun _ H5 e5 => ?_)
        have hW5 := e5 _ _ hW4
        have e15 := e14.trans e5
        clear tNot hg t2 hW4 e14 e5 hdp4
        obtain ⟨A, B, C, rfl, la, lb, lc⟩ : ∃ A B C : List Str, ws = A ++ (B ++ C) ∧ A.length = a ∧ B.length = b ∧ C.length = c :=
          ⟨ws.take a, (ws.drop a).take b, (ws.drop a).drop b, by rw [List.take_append_drop, List.take_append_drop], by rw [List.length_take]; omega, by rw [List.length_take, List.length_drop]; omega, by rw [List.length_drop, List.length_drop]; omega⟩
        have eo2 : rdOne row = _ := eo.trans (rd_nine S nu nm la lb lc)
        clear eo er hlen
        have hab := S.ab
        have hbb := S.bb
        have hcb := S.cb
        refine q_asg (v := .int ((1 + a : Nat) : Int)) (by
          have ti := et_test (ev_inU (K := K) (σ := [some (.str row), some (.ref W), some (.str wd), none, none, some (.ref dp), none, none, none, none, none, none]) (H := H5) (ev_var (i := 2) (v := .str wd) rfl) (eu_tup (ea_cons (ev_c (v := .str "move")) (ea_cons (ev_c (v := .str "drop")) ea_nil)) (by simp)) rfl rfl)
          by_cases ha : a = 1
          · refine ev_if (b := true) (et_is ti (S.ia.trans (decide_eq_true ha))) (fun _ => ?_) (fun z => Bool.noConfusion z)
            rw [ha]
            exact ev_c
          · refine ev_if (b := false) (et_is ti (S.ia.trans (decide_eq_false ha))) (fun z => Bool.noConfusion z) (fun _ => ?_)
            have ha0 : a = 0 := by omega
            rw [ha0]
            exact ev_c) fun H6 e6 => ?_
        refine q_asg (v := .int ((1 + a + b : Nat) : Int)) (by
          by_cases hp : wd = "pane"
          · obtain ⟨pa, pb⟩ := S.pa (S.ic.mp hp)
            refine ev_if (b := true) (et_is (et_test (ev_op (ev_var (v := .str wd) rfl) ev_c (rv_eq rfl))) (by simp [hp])) (fun _ => ?_) (fun z => Bool.noConfusion z)
            rw [pa, pb]
            exact ev_c
          · refine ev_if (b := false) (et_is (et_test (ev_op (ev_var (v := .str wd) rfl) ev_c (rv_eq rfl))) (by simp [hp])) (fun z => Bool.noConfusion z) (fun _ => ?_)
            have hc0 : c = 0 := by
              have z : c ≠ 1 := fun z => hp (S.ic.mpr z)
              omega
            refine ev_is (ev_lenL (K := K) (ev_var rfl) (sq_of (e6 _ _ hW5))) ?_
            have z : ((wd :: (A ++ (B ++ C))).map V.str).length = 1 + a + b := by
              rw [List.length_map, List.length_cons, List.length_append, List.length_append, la, lb, lc, hc0]
              omega
            rw [z]) fun H7 e7 => ?_
        have hW7 := e7 _ _ (e6 _ _ hW5)
        have e17 := (e15.trans e6).trans e7
        clear hW5 e15 e6 e7
        have cB : cutV ((wd :: (A ++ (B ++ C))).map V.str) (some ((1 + a : Nat) : Int)) (some ((1 + a + b : Nat) : Int)) = B.map V.str := by
          rw [cutV_nat, show 1 + a + b - (1 + a) = b by omega, show 1 + a = A.length + 1 by omega, ← List.map_drop, List.drop_succ_cons, List.drop_left, ← List.map_take, ← lb, List.take_left]
        have cA : cutV ((wd :: (A ++ (B ++ C))).map V.str) (some ((1 : Nat) : Int)) (some ((1 + a : Nat) : Int)) = A.map V.str := by
          rw [cutV_nat, show 1 + a - 1 = A.length by omega, ← List.map_drop, List.drop_succ_cons, List.drop_zero, ← List.map_take, List.take_left]
        have cC : cutV ((wd :: (A ++ (B ++ C))).map V.str) (some ((1 + a + b : Nat) : Int)) none = C.map V.str := by
          unfold cutV
          rw [HT.sIx_nat, HT.sIx_none, List.length_map]
          have el : (wd :: (A ++ (B ++ C))).length = 1 + a + b + c := by
            rw [List.length_cons, List.length_append, List.length_append]
            omega
          rw [el, Nat.min_eq_left (by omega), show 1 + a + b + c - (1 + a + b) = C.length by omega, ← List.map_drop, show 1 + a + b = (A ++ B).length + 1 by rw [List.length_append]; omega, List.drop_succ_cons, ← List.append_assoc, List.drop_left, ← List.map_take, List.take_length]
        have hBA : ∀ w ∈ B, Asc w := fun w hm => haw w (List.mem_append_right _ (List.mem_append_left _ hm))
        have slB := el_sl (K := K) (σ := [some (.str row), some (.ref W), some (.str wd), none, none, some (.ref dp), some (.int ((1 + a : Nat) : Int)), some (.int ((1 + a + b : Nat) : Int)), none, none, none, none]) (H := H7) (te := tVar 1) (tl := tPart (tVar 6)) (th := tPart (tVar 7)) (ev_var rfl) (eo_some (ev_var rfl)) (eo_some (ev_var rfl)) (sq_of hW7)
        rw [cB] at slB
        refine q_te (slB H7 (Ex.refl _) _ fun pB H8 nB e8 hB => ⟨pB, B, rfl, sq_of hB, by omega, hBA, ?_⟩)
        have hW8 := e8 _ _ hW7
        have e18 := e17.trans e8
        clear slB hW7 e17 e8 hB
        have fw := strs_flat (wd :: (A ++ (B ++ C)))
        cases hns : nums B with
        | none =>
          intro H9 e9
          refine q_when (b := true) (et_is (et_or (b := false) (et_test (ev_op (ev_var rfl) ev_c fun H6 _ _ q6 => ⟨rfl, q6 H6 (Ex.refl _)⟩)) (fun z => Bool.noConfusion z)) rfl) (fun _ H10 e10 => s_ret ev_c fun H11 e11 => k0 (by rw [eo2, hns]) H11 (((e18.trans e9).trans e10).trans e11)) (fun ht => Bool.noConfusion ht)
        | some ns =>
          intro q H9 nq e9 hq
          rw [hns] at eo2
          have hW9 := e9 _ _ hW8
          have e19 := e18.trans e9
          clear hW8 e18 e9
          have tE : EvT (tOr (tTest (tOp (fun x y H Q => y = V.non ∧ Q (V.bl (decide (x = V.non))) H) (tVar 8) (tC V.non))) (tTest (tOp (rIn K false) (tC (V.str "")) (tVar 1)))) [some (.str row), some (.ref W), some (.str wd), none, none, some (.ref dp), some (.int ((1 + a : Nat) : Int)), some (.int ((1 + a + b : Nat) : Int)), some (.ref q), none, none, none] H9 (decide (("" : Str) ∈ wd :: (A ++ (B ++ C)))) :=
            et_is (et_or (et_nonR rfl) (fun _ => et_test (ev_op ev_c (ev_var rfl) (rv_isL (K := K) (sq_of hW9) rfl fw)))) (by rw [inV_strs, Bool.false_or])
          by_cases hemp : ("" : Str) ∈ wd :: (A ++ (B ++ C))
          · rw [decide_eq_true hemp] at tE
            exact q_when (b := true) tE (fun _ H10 e10 => s_ret ev_c fun H11 e11 => k0 (by rw [eo2]; exact if_pos hemp) H11 ((e19.trans e10).trans e11)) (fun ht => Bool.noConfusion ht)
          · rw [decide_eq_false hemp] at tE
            refine q_when (b := false) tE (fun ht => Bool.noConfusion ht) (fun _ H10 e10 => ?_)
            have eo3 := eo2.trans (if_neg hemp)
            have hW10 := e10 _ _ hW9
            have hq10 := e10 _ _ hq
            have e110 := e19.trans e10
            clear tE hW9 hq e10 e19 eo2
            have slC := el_sl (K := K) (σ := [some (.str row), some (.ref W), some (.str wd), none, none, some (.ref dp), some (.int ((1 + a : Nat) : Int)), some (.int ((1 + a + b : Nat) : Int)), some (.ref q), none, none, none]) (H := H10) (te := tVar 1) (tl := tPart (tVar 7)) (th := tNoPart) (ev_var rfl) (eo_some (ev_var rfl)) eo_none (sq_of hW10)
            rw [cC] at slC
            refine q_te (tup_te (lc_mkL (K := K) (fun i v _ => ∀ p, C[i]? = some p → v = tailV p) (fun _ _ _ _ _ h => h) slC (by rw [List.length_map]; omega) (fun _ => rfl) (fun i x H' Q' e' hi kq => ?_) (fun D ys H11 nD e11 hD hly hys => ⟨D, ys, rfl, .inl ⟨sq_of hD, fun t ht => ?_⟩⟩)))
            · obtain ⟨p, hp, rfl⟩ := str_at hi
              have z : Ev (tIf (tTest (tOp rEq (tVar 11) (tC (V.str "-")))) (tC (V.str "")) (tVar 11)) [some (.str row), some (.ref W), some (.str wd), none, none, some (.ref dp), some (.int ((1 + a : Nat) : Int)), some (.int ((1 + a + b : Nat) : Int)), some (.ref q), none, none, some (.str p)] H' (tailV p) := by
                by_cases h : p = "-"
                · unfold tailV
                  rw [if_pos h]
                  exact ev_if (b := true) (et_is (et_test (ev_op (ev_var (v := .str p) rfl) ev_c (rv_eq rfl))) (by simp [h])) (fun _ => ev_c) (fun z => Bool.noConfusion z)
                · unfold tailV
                  rw [if_neg h]
                  exact ev_if (b := false) (et_is (et_test (ev_op (ev_var (v := .str p) rfl) ev_c (rv_eq rfl))) (by simp [h])) (fun z => Bool.noConfusion z) (fun _ => ev_var rfl)
              exact z H' (Ex.refl _) _ fun H2 e2 => kq _ H2 e2 fun p' hp' => by
                rw [hp] at hp'
                cases hp'
                rfl
            · rw [List.length_map] at hly
              have hy : ys = C.map tailV := by
                refine List.ext_getElem? fun i => ?_
                rw [List.getElem?_map]
                by_cases hi : i < ys.length
                · rw [List.getElem?_eq_getElem hi, List.getElem?_eq_getElem (show i < C.length by omega)]
                  exact congrArg some (hys i _ (List.getElem?_eq_getElem hi) _ (List.getElem?_eq_getElem (show i < C.length by omega)))
                · rw [List.getElem?_eq_none (by omega), List.getElem?_eq_none (by omega)]
                  rfl
              subst hy
              have et := Ex.new (o := .tup (C.map tailV)) ht
              have ht2 : (upd H11 t (.tup (C.map tailV))) t = some (.tup (C.map tailV)) := upd_same
              have hW12 := et _ _ (e11 _ _ hW10)
              have hq12 := et _ _ (e11 _ _ hq10)
              have e112 := (e110.trans e11).trans et
              revert hW12 hq12 e112 ht2
              generalize upd H11 t (.tup (C.map tailV)) = H12
              intro ht2 hW12 hq12 e112
              have slA := el_sl (K := K) (σ := [some (.str row), some (.ref W), some (.str wd), none, none, some (.ref dp), some (.int ((1 + a : Nat) : Int)), some (.int ((1 + a + b : Nat) : Int)), some (.ref q), some (.ref t), none, none]) (H := H12) (te := tVar 1) (tl := tPart (tC (.int 1))) (th := tPart (tVar 6)) (ev_var rfl) (eo_some ev_c) (eo_some (ev_var rfl)) (sq_of hW12)
              have cA1 : cutV ((wd :: (A ++ (B ++ C))).map V.str) (some (1 : Int)) (some ((1 + a : Nat) : Int)) = A.map V.str := cA
              rw [cA1] at slA
              have lns : ns.length = b := by
                obtain ⟨eB, _⟩ := nums_some hns
                rw [← lb, eB, List.length_map]
              have fin := (((EvTp.of (K := K) (eu_tup (ea_cons (ev_var (i := 2) (v := .str wd) rfl) ea_nil) (by simp))).cat (EvTp.of (K := K) (eu_tupOf (K := K) slA)) (by simp) (by simp; omega)).cat (EvTp.var (i := 8) rfl (st_of hq12)) (by simp) (by simp; omega)).cat (EvTp.var (i := 9) rfl (st_of ht2)) (by simp) (by simp; omega)
              refine fin H12 (Ex.refl _) _ fun p H13 e13 hp => k1 _ eo3 p H13 (e112.trans e13) ?_
              have ex : ([V.str wd] ++ A.map V.str ++ ns.map V.int ++ C.map tailV) = V.str wd :: (A.map V.str ++ (ns.map V.int ++ C.map tailV)) := by simp
              rw [ex] at hp
              exact hp
end
end Hs
namespace Hs
open PySem PySem.Spec PyProof.Rows L2 Evl
/-! ### what is read is made of numbers and words -/
def NumOrStr (v : V) : Prop := (∃ n, v = .int n) ∨ ∃ s, v = .str s ∧ Asc s
def WD.rok : WD → Prop
  | .plain w xs => (∀ x ∈ xs, NumOrStr x) ∧ xs.length ≤ 6 ∧ Asc w
  | .unsure rows => rows.length ≤ 15001 ∧ ∀ r ∈ rows, r.length = 5
theorem asc_nil : Asc "" := ⟨by decide +kernel, by decide +kernel⟩
theorem thOf_ns {l x : Str} {v : V} (hA : Asc x) (h : thOf l x = some v) : NumOrStr v := by
  unfold thOf at h
  split at h
  · obtain ⟨n, _, rfl⟩ := Option.map_eq_some_iff.mp h
    exact .inl ⟨n, rfl⟩
  · split at h
    · cases h
    · cases h
      refine .inr ⟨_, rfl, ?_⟩
      split
      · exact asc_nil
      · exact hA
theorem thsOf_ns : ∀ {cs : List Nat} {ws : List Str} {xs : List V}, (∀ w ∈ ws, Asc w) → thsOf cs ws = some xs → xs.length = ws.length ∧ ∀ x ∈ xs, NumOrStr x
  | [], [], xs, _, h => by
    cases h
    exact ⟨rfl, fun _ h => by cases h⟩
  | [], _ :: _, xs, _, h => by cases h
  | _ :: _, [], xs, _, h => by cases h
  | c :: cs, w :: ws, xs, ha, h => by
    have h : (match thOf ⟨#[c]⟩ w, thsOf cs ws with | some v, some vs => some (v :: vs) | _, _ => none) = some xs := h
    cases hv : thOf ⟨#[c]⟩ w with
    | none =>
      rw [hv] at h
      cases h
    | some v =>
      cases hs : thsOf cs ws with
      | none =>
        rw [hv, hs] at h
        cases h
      | some vs =>
        rw [hv, hs] at h
        cases h
        obtain ⟨h1, h2⟩ := thsOf_ns (fun w hw => ha w (List.mem_cons_of_mem _ hw)) hs
        refine ⟨by rw [List.length_cons, List.length_cons, h1], fun x hx => ?_⟩
        rcases List.mem_cons.mp hx with rfl | hx
        · exact thOf_ns (ha w List.mem_cons_self) hv
        · exact h2 x hx
theorem FT_size {w fm : Str} (h : FT w = some fm) : fm.cps.size ≤ 5 := by
  unfold FT at h
  obtain ⟨p, hp, rfl⟩ := Option.map_eq_some_iff.mp h
  have z : ∀ p ∈ formsA, p.2.cps.size ≤ 5 := by decide +kernel
  exact z p (List.mem_of_find?_eq_some hp)
theorem formOf_size {w fm : Str} (h : formOf w = some fm) : fm.cps.size ≤ 5 := by
  unfold formOf at h
  split at h
  · cases h
    decide +kernel
  · exact FT_size h
theorem chk_rows : ∀ {f : Nat} {ws : List Str} {rows : List (List Int)}, chk f ws = some rows → rows.length ≤ f ∧ ∀ r ∈ rows, r.length = 5
  | 0, _, _, h => by cases h
  | f + 1, ws, rows, h => by
    have h : (if (ws.drop 5).take 1 = [] ∨ (ws.drop 5).take 1 = [("/" : Str)] then
      match nums (ws.take 5) with
      | some c => if c.length = 5 then (if 6 ≤ ws.length then (chk f (ws.drop 6)).map (c :: ·) else some [c]) else none
      | none => none
    else none) = some rows := h
    split at h
    · split at h
      · split at h
        · rename_i c5
          split at h
          · obtain ⟨rs, hr, rfl⟩ := Option.map_eq_some_iff.mp h
            obtain ⟨h1, h2⟩ := chk_rows hr
            refine ⟨by rw [List.length_cons]; omega, fun r hr => ?_⟩
            rcases List.mem_cons.mp hr with rfl | hr
            · exact c5
            · exact h2 r hr
          · cases h
            refine ⟨by rw [List.length_cons, List.length_nil]; omega, fun r hr => ?_⟩
            rw [List.mem_singleton.mp hr]
            exact c5
        · cases h
      · cases h
    · cases h
theorem rdW_rok {ws : List Str} {d : WD} (hl : ws.length ≤ 15001) (ha : ∀ w ∈ ws, Asc w) (h : rdW ws = some d) : d.rok := by
  cases ws with
  | nil => cases h
  | cons w ws =>
    have h : (if w = "unsure" then (chOf ws).map WD.unsure else match formOf w with
      | none => none
      | some fm => if fm.cps.size = ws.length then
          match thsOf fm.cps.toList ws with
          | none => none
          | some xs => if w = "many" ∧ negV xs = true then none else some (.plain w xs)
        else none) = some d := h
    rw [List.length_cons] at hl
    split at h
    · obtain ⟨rows, hr, rfl⟩ := Option.map_eq_some_iff.mp h
      obtain ⟨h1, h2⟩ := chk_rows hr
      exact ⟨by omega, h2⟩
    · split at h
      · cases h
      · rename_i fm hf
        have h5 := formOf_size hf
        split at h
        · rename_i hs
          split at h
          · cases h
          · rename_i xs hx
            obtain ⟨h1, h2⟩ := thsOf_ns (fun w hw => ha w (List.mem_cons_of_mem _ hw)) hx
            split at h
            · cases h
            · cases h
              exact ⟨h2, by omega, ha w List.mem_cons_self⟩
        · cases h
theorem rdOne_rok {r : Str} {d : WD} (hA : Asc r) (h : rdOne r = some d) : d.rok ∧ headW d ≠ "many" := by
  unfold rdOne at h
  obtain ⟨d', h1, h2⟩ := Option.bind_eq_some_iff.mp h
  split at h2
  · cases h2
  · rename_i hm
    cases h2
    obtain ⟨a1, a2⟩ := asc_split (y := " ") hA (by decide +kernel)
    have := hA.2
    exact ⟨rdW_rok (by omega) a1 h1, hm⟩
/-! ### deeds as data -/
def thD : V → PyData
  | .int n => .int n
  | .str s => .str s
  | _ => .none
def rowD (r : List Int) : PyData := .tuple (r.map PyData.int)
def wdD : WD → PyData
  | .plain w xs => .tuple (.str w :: xs.map thD)
  | .unsure rows => .tuple [.str "unsure", .tuple (rows.map rowD)]
def oD : Option WD → PyData
  | none => .none
  | some d => wdD d
theorem ns_dp {K : PySem.W.Frag} {H : Hp} : ∀ {xs : List V}, (∀ x ∈ xs, NumOrStr x) → DpAll K H xs (xs.map thD)
  | [], _ => .nil
  | x :: xs, h => by
    refine .cons ?_ (ns_dp fun y hy => h y (List.mem_cons_of_mem _ hy))
    rcases h x List.mem_cons_self with ⟨n, rfl⟩ | ⟨s, rfl, hs⟩
    · exact .int n
    · exact .str s
theorem rows_dp {K : PySem.W.Frag} {H : Hp} : ∀ {ps : List Addr} {rows : List (List Int)}, ps.length = rows.length → (∀ (i : Nat) (p : Addr) (r : List Int), ps[i]? = some p → rows[i]? = some r → SqT K H p (r.map V.int)) → DpAll K H (ps.map V.ref) (rows.map rowD)
  | [], [], _, _ => .nil
  | [], _ :: _, h, _ => by cases h
  | _ :: _, [], h, _ => by cases h
  | p :: ps, r :: rows, h, f => .cons (.tup (f 0 p r rfl rfl) (dpAll_ints r)) (rows_dp (Nat.succ.inj h) fun i q s h1 h2 => f (i + 1) q s h1 h2)
theorem DeedV.dp {K : PySem.W.Frag} {H : Hp} {a : Addr} {d : WD} (ok : d.rok) (h : DeedV K H a d) : Dp K H (.ref a) (wdD d) := by
  cases d with
  | plain w xs => exact .tup h (.cons (.str w) (ns_dp ok.1))
  | unsure rows =>
    obtain ⟨c, ps, g1, g2, g3, g4⟩ := h
    exact .tup g1 (.cons (.str _) (.cons (.tup g2 (rows_dp g3 g4)) .nil))
theorem asc_ok {s : Str} (h : Asc s) : PyData.canLay0 (.str s) = true := by
  have e : PyData.canLay0 (.str s) = PyData.strOk s := rfl
  rw [e]
  unfold PyData.strOk
  rw [← Array.all_toList, List.all_eq_true]
  intro c hc
  exact decide_eq_true (Nat.lt_trans (h.1 c hc) (by decide))
theorem ns_lay : ∀ {xs : List V}, (∀ x ∈ xs, NumOrStr x) → PyData.canLayAll0 (xs.map thD) = true ∧ PyData.depthAll (xs.map thD) = 0
  | [], _ => ⟨rfl, rfl⟩
  | x :: xs, h => by
    obtain ⟨h1, h2⟩ := ns_lay (xs := xs) fun y hy => h y (List.mem_cons_of_mem _ hy)
    have hx : PyData.canLay0 (thD x) = true ∧ PyData.depth (thD x) = 0 := by
      rcases h x List.mem_cons_self with ⟨n, rfl⟩ | ⟨s, rfl, hs⟩
      · exact ⟨rfl, rfl⟩
      · exact ⟨asc_ok hs, rfl⟩
    refine ⟨?_, ?_⟩
    · show (PyData.canLay0 (thD x) && PyData.canLayAll0 (xs.map thD)) = true
      rw [hx.1, h1] <;> rfl
    · show max (PyData.depth (thD x)) (PyData.depthAll (xs.map thD)) = 0
      omega
theorem rowsD_lay : ∀ rows : List (List Int), PyData.canLayAll0 (rows.map rowD) = true ∧ PyData.depthAll (rows.map rowD) ≤ 1
  | [] => ⟨rfl, by decide⟩
  | r :: rows => by
    obtain ⟨h1, h2⟩ := rowsD_lay rows
    obtain ⟨a, b⟩ := ints_lay r
    refine ⟨?_, ?_⟩
    · show (PyData.canLayAll0 (r.map PyData.int) && PyData.canLayAll0 (rows.map rowD)) = true
      rw [a, h1] <;> rfl
    · show max (PyData.depthAll (r.map PyData.int) + 1) (PyData.depthAll (rows.map rowD)) ≤ 1
      omega
theorem wdD_lay {d : WD} (ok : d.rok) : PyData.canLay0 (wdD d) = true ∧ PyData.depth (wdD d) ≤ 3 := by
  cases d with
  | plain w xs =>
    obtain ⟨h1, h2⟩ := ns_lay ok.1
    refine ⟨?_, ?_⟩
    · show (PyData.canLay0 (.str w) && PyData.canLayAll0 (xs.map thD)) = true
      rw [h1, asc_ok ok.2.2] <;> rfl
    · show max 0 (PyData.depthAll (xs.map thD)) + 1 ≤ 3
      omega
  | unsure rows =>
    obtain ⟨h1, h2⟩ := rowsD_lay rows
    refine ⟨?_, ?_⟩
    · show (PyData.canLay0 (.str "unsure") && (PyData.canLayAll0 (rows.map rowD) && true)) = true
      rw [h1, asc_ok ⟨by decide +kernel, by decide +kernel⟩] <;> rfl
    · show max 0 (max (PyData.depthAll (rows.map rowD) + 1) 0) + 1 ≤ 3
      omega
theorem osD_lay : ∀ {os : List (Option WD)}, (∀ o ∈ os, ∀ d, o = some d → d.rok) → PyData.canLayAll0 (os.map oD) = true ∧ PyData.depthAll (os.map oD) ≤ 3
  | [], _ => ⟨rfl, by decide⟩
  | o :: os, h => by
    obtain ⟨h1, h2⟩ := osD_lay (os := os) fun o' ho => h o' (List.mem_cons_of_mem _ ho)
    have ho : PyData.canLay0 (oD o) = true ∧ PyData.depth (oD o) ≤ 3 := by
      cases o with
      | none => exact ⟨rfl, by decide⟩
      | some d => exact wdD_lay (h _ List.mem_cons_self d rfl)
    refine ⟨?_, ?_⟩
    · show (PyData.canLay0 (oD o) && PyData.canLayAll0 (os.map oD)) = true
      rw [h1, ho.1] <;> rfl
    · show max (PyData.depth (oD o)) (PyData.depthAll (os.map oD)) ≤ 3
      omega
theorem osD_shaped {os : List (Option WD)} (h : ∀ o ∈ os, ∀ d, o = some d → d.rok) : SeqAt.shaped (.list (os.map oD)) = true := by
  obtain ⟨h1, h2⟩ := osD_lay h
  unfold SeqAt.shaped
  rw [Bool.and_eq_true]
  refine ⟨h1, decide_eq_true ?_⟩
  show PyData.depthAll (os.map oD) + 1 ≤ 64
  omega
theorem oD_none : ∀ o : Option WD, PyData.eqv (oD o) .none = o.isNone
  | none => rfl
  | some (.plain _ _) => rfl
  | some (.unsure _) => rfl
theorem osD_none (os : List (Option WD)) : ((os.map oD).any fun z => PyData.eqv z .none) = os.any Option.isNone := by
  rw [List.any_map]
  congr 1
  funext o
  exact oD_none o
/-- a value that tells a deed, or None -/
def OptW (K : PySem.W.Frag) (H : Hp) (v : V) : Option WD → Prop
  | none => v = .non
  | some d => ∃ p, v = .ref p ∧ DeedV K H p d
theorem OptW.kp {K : PySem.W.Frag} {H H' : Hp} {v : V} {o : Option WD} (e : Kp H H') (h : OptW K H v o) : OptW K H' v o := by
  cases o with
  | none => exact h
  | some ns =>
    obtain ⟨q, h1, h2⟩ := h
    exact ⟨q, h1, DeedV.kp e h2⟩
theorem dpAll_osD {K : PySem.W.Frag} {H : Hp} : ∀ {ys : List V} {os : List (Option WD)}, ys.length = os.length → (∀ o ∈ os, ∀ d, o = some d → d.rok) → (∀ (i : Nat) (v : V) (o : Option WD), ys[i]? = some v → os[i]? = some o → OptW K H v o) → DpAll K H ys (os.map oD)
  | [], [], _, _, _ => .nil
  | [], _ :: _, h, _, _ => by cases h
  | _ :: _, [], h, _, _ => by cases h
  | y :: ys, o :: os, h, hr, f => by
    refine .cons ?_ (dpAll_osD (Nat.succ.inj h) (fun o' ho => hr o' (List.mem_cons_of_mem _ ho)) fun i v o' h1 h2 => f (i + 1) v o' h1 h2)
    have z := f 0 y o rfl rfl
    cases o with
    | none =>
      have z : y = .non := z
      rw [z]
      exact .non
    | some d =>
      obtain ⟨p, rfl, hp⟩ := z
      exact hp.dp (hr _ List.mem_cons_self d rfl)
/-! ### rows read one by one -/
theorem rdSome_inr : ∀ {rs : List Str} {j : Nat} {ds : List WD}, rdSome rs j = .inr ds → rs.map rdOne = ds.map some
  | [], j, ds, h => by
    cases h
    rfl
  | r :: rs, j, ds, h => by
    have h : (match rdOne r with | none => .inl j | some d => match rdSome rs (j + 1) with | .inl b => .inl b | .inr ds => .inr (d :: ds)) = Sum.inr ds := h
    cases hr : rdOne r with
    | none =>
      rw [hr] at h
      cases h
    | some d =>
      rw [hr] at h
      have h : (match rdSome rs (j + 1) with | .inl b => Sum.inl b | .inr ds => .inr (d :: ds)) = Sum.inr ds := h
      cases ht : rdSome rs (j + 1) with
      | inl b =>
        rw [ht] at h
        cases h
      | inr es =>
        rw [ht] at h
        cases h
        rw [List.map_cons, List.map_cons, hr, rdSome_inr ht]
theorem rdSome_inl : ∀ {rs : List Str} {j b : Nat}, rdSome rs j = .inl b → ∃ m : Nat, b = j + m ∧ (rs.map rdOne)[m]? = some none ∧ ∀ i < m, ∃ d, (rs.map rdOne)[i]? = some (some d)
  | [], j, b, h => by cases h
  | r :: rs, j, b, h => by
    have h : (match rdOne r with | none => .inl j | some d => match rdSome rs (j + 1) with | .inl b => .inl b | .inr ds => .inr (d :: ds)) = Sum.inl b := h
    cases hr : rdOne r with
    | none =>
      rw [hr] at h
      cases h
      exact ⟨0, rfl, by rw [List.map_cons, hr] <;> rfl, fun i hi => absurd hi (Nat.not_lt_zero _)⟩
    | some d =>
      rw [hr] at h
      have h : (match rdSome rs (j + 1) with | .inl b => Sum.inl b | .inr ds => .inr (d :: ds)) = Sum.inl b := h
      cases ht : rdSome rs (j + 1) with
      | inr es =>
        rw [ht] at h
        cases h
      | inl b' =>
        rw [ht] at h
        cases h
        obtain ⟨m, h1, h2, h3⟩ := rdSome_inl ht
        refine ⟨m + 1, by omega, h2, fun i hi => ?_⟩
        cases i with
        | zero => exact ⟨d, by rw [List.map_cons, hr] <;> rfl⟩
        | succ i => exact h3 i (by omega)
/-- the number behind the word many -/
noncomputable def manyOf : List Str → Option Int
  | [w, x] => if w = "many" then numOf x else none
  | _ => none
theorem rd_manyrow {ws : List Str} {d : WD} (h : rdW ws = some d) (hm : headW d = "many") : ∃ k : Nat, manyOf ws = some (k : Int) ∧ manyK d = k ∧ k < 10 ^ 9 := by
  cases ws with
  | nil => cases h
  | cons w ws =>
    have h : (if w = "unsure" then (chOf ws).map WD.unsure else match formOf w with
      | none => none
      | some fm => if fm.cps.size = ws.length then
          match thsOf fm.cps.toList ws with
          | none => none
          | some xs => if w = "many" ∧ negV xs = true then none else some (.plain w xs)
        else none) = some d := h
    split at h
    · obtain ⟨rows, hr, rfl⟩ := Option.map_eq_some_iff.mp h
      have z : ¬ ("unsure" : Str) = "many" := by decide +kernel
      exact absurd hm z
    · split at h
      · cases h
      · rename_i fm hf
        split at h
        · rename_i hs
          split at h
          · cases h
          · rename_i xs hx
            split at h
            · cases h
            · rename_i hneg
              cases h
              have hm : w = "many" := hm
              subst hm
              have ef : formOf "many" = some "n" := by decide +kernel
              rw [ef] at hf
              cases hf
              have e1 : ("n" : Str).cps.size = 1 := by decide +kernel
              rw [e1] at hs
              have e2 : ("n" : Str).cps.toList = [110] := by decide +kernel
              rw [e2] at hx
              match ws, hs with
              | [x], _ =>
                have hx : (match thOf ⟨#[110]⟩ x, thsOf [] [] with | some v, some vs => some (v :: vs) | _, _ => none) = some xs := hx
                have e3 : (⟨#[110]⟩ : Str) = "n" := by decide +kernel
                have e4 : thOf ⟨#[110]⟩ x = (numOf x).map V.int := by
                  unfold thOf
                  rw [if_pos e3]
                rw [e4] at hx
                cases hn : numOf x with
                | none =>
                  rw [hn] at hx
                  cases hx
                | some n =>
                  rw [hn] at hx
                  cases hx
                  have hn0 : 0 ≤ n := by
                    have z := fun q => hneg ⟨rfl, q⟩
                    by_cases q : n < 0
                    · exact absurd (decide_eq_true q) z
                    · omega
                  obtain ⟨b1, _⟩ := numOf_some hn
                  refine ⟨n.toNat, ?_, rfl, by omega⟩
                  show (if ("many" : Str) = "many" then numOf x else none) = _
                  rw [if_pos rfl, hn, Int.toNat_of_nonneg hn0]
        · cases h
theorem rd_manyof {ws : List Str} {k : Nat} (h : manyOf ws = some (k : Int)) : rdW ws = some (.plain "many" [.int (k : Int)]) := by
  match ws, h with
  | [w, x], h =>
    have h : (if w = "many" then numOf x else none) = some (k : Int) := h
    split at h
    · rename_i hw
      subst hw
      have hk : numOf x = some (k : Int) := h
      have nmu : ¬ ("many" : Str) = "unsure" := by decide +kernel
      have er : rdW [("many" : Str), x] = if ("many" : Str) = "unsure" then (chOf [x]).map WD.unsure else match formOf "many" with
        | none => none
        | some fm => if fm.cps.size = [x].length then
            match thsOf fm.cps.toList [x] with
            | none => none
            | some xs => if ("many" : Str) = "many" ∧ negV xs = true then none else some (.plain "many" xs)
          else none := rfl
      have ef : formOf "many" = some "n" := by decide +kernel
      have e1 : ("n" : Str).cps.size = [x].length := by
        show ("n" : Str).cps.size = 1
        decide +kernel
      have e2 : ("n" : Str).cps.toList = [110] := by decide +kernel
      have e3 : (⟨#[110]⟩ : Str) = "n" := by decide +kernel
      have e4 : thsOf [110] [x] = some [.int (k : Int)] := by
        show (match thOf ⟨#[110]⟩ x, thsOf [] [] with | some v, some vs => some (v :: vs) | _, _ => none) = _
        have e5 : thOf ⟨#[110]⟩ x = (numOf x).map V.int := by
          unfold thOf
          rw [if_pos e3]
        rw [e5, hk]
        rfl
      rw [er, if_neg nmu, ef]
      show (if ("n" : Str).cps.size = [x].length then (match thsOf ("n" : Str).cps.toList [x] with | none => none | some xs => if ("many" : Str) = "many" ∧ negV xs = true then none else some (WD.plain "many" xs)) else none) = _
      rw [if_pos e1, e2, e4]
      show (if ("many" : Str) = "many" ∧ negV [V.int (k : Int)] = true then none else some (WD.plain "many" [V.int (k : Int)])) = _
      rw [if_neg]
      rintro ⟨_, z⟩
      have z : (k : Int) < 0 := of_decide_eq_true z
      omega
    · cases h
end Hs
namespace Hs
open PySem PySem.Spec PyProof.Rows L2 Evl
theorem s_ret1 {t : TT} {ta tb : TE} {D : Ends} {σ : L2.St} {H : Hp} {xs : List V} (h : EvT t σ H true) (hu : EvU ta σ H xs) (k : ∀ p H1, Ex H H1 → H1 p = some (.tup xs) → D.rt (.ref p) H1) : tRet (tIf t ta tb) D σ H := h H (Ex.refl _) _ fun H1 e1 => ite_T rfl (hu H1 e1 _ fun p H2 _ e2 hp => k p H2 (e1.trans e2) hp)
theorem s_ret2 {t : TT} {ta tb : TE} {D : Ends} {σ : L2.St} {H : Hp} {xs : List V} (h : EvT t σ H false) (hu : EvU tb σ H xs) (k : ∀ p H1, Ex H H1 → H1 p = some (.tup xs) → D.rt (.ref p) H1) : tRet (tIf t ta tb) D σ H := h H (Ex.refl _) _ fun H1 e1 => ite_F rfl (hu H1 e1 _ fun p H2 _ e2 hp => k p H2 (e1.trans e2) hp)
theorem rdFrom_one {r0 : Str} {rest : List Str} (h : ∀ k : Nat, manyOf (Txt.split r0 " ") ≠ some (k : Int)) : rdFrom (r0 :: rest) = match rdOne r0 with | none => .inl 0 | some d => .inr (.one d, 1) := by
  have e : rdFrom (r0 :: rest) = match rdW (Txt.split r0 " ") with
    | none => .inl 0
    | some d => if headW d = "many" then
        match rdSome (rest.take (manyK d)) 1 with
        | .inl b => .inl b
        | .inr ds => if rest.length < manyK d then .inl (rest.length + 1) else .inr (.many ds, 1 + manyK d)
      else .inr (.one d, 1) := rfl
  have e2 : rdOne r0 = (rdW (Txt.split r0 " ")).bind fun d => if headW d = "many" then none else some d := rfl
  rw [e, e2]
  cases hd : rdW (Txt.split r0 " ") with
  | none => rfl
  | some d =>
    by_cases hm : headW d = "many"
    · obtain ⟨k, hk, _⟩ := rd_manyrow hd hm
      exact absurd hk (h k)
    · show (if headW d = "many" then _ else Sum.inr (DD.one d, 1)) = (match (if headW d = "many" then none else some d) with | none => Sum.inl 0 | some d => Sum.inr (DD.one d, 1))
      rw [if_neg hm, if_neg hm]
theorem rdFrom_many {r0 : Str} {rest : List Str} {k : Nat} (h : manyOf (Txt.split r0 " ") = some (k : Int)) : rdFrom (r0 :: rest) = match rdSome (rest.take k) 1 with
    | .inl b => .inl b
    | .inr ds => if rest.length < k then .inl (rest.length + 1) else .inr (.many ds, 1 + k) := by
  have e : rdFrom (r0 :: rest) = match rdW (Txt.split r0 " ") with
    | none => .inl 0
    | some d => if headW d = "many" then
        match rdSome (rest.take (manyK d)) 1 with
        | .inl b => .inl b
        | .inr ds => if rest.length < manyK d then .inl (rest.length + 1) else .inr (.many ds, 1 + manyK d)
      else .inr (.one d, 1) := rfl
  rw [e, rd_manyof h]
  rfl
section
variable {P : Program} {w : World} {K : PySem.W.Frag} {mg : Str → Option Value} {base : Heap} {f : Addr} {fd : FuncData}
def spRAt (K : PySem.W.Frag) : Sp := fun vs H Q _ => ∃ (a : Addr) (rows : List Str), vs = [.ref a, .int 0] ∧ SqL K H a (rows.map V.str) ∧ rows ≠ [] ∧ rows.length ≤ 15001 ∧ (∀ r ∈ rows, Asc r) ∧
  (∀ b, rdFrom rows = .inl b → ∀ (t : Addr) (H' : Hp), Ex H H' → SqT K H' t [.non, .int (b : Nat)] → Q (.ref t) H') ∧
  ∀ dd n, rdFrom rows = .inr (dd, n) → ∀ (t p : Addr) (H' : Hp), Ex H H' → SqT K H' t [.ref p, .int (n : Nat)] → DDV K H' p dd → Q (.ref t) H'
abbrev sRAt : Stmt := top 26
theorem scRAt : FnScope ["_law_rows", "_law_at", "_law_words", "_law_many", "_law_deed", "_law_some", "_law_row"] ["_law_rows", "_law_at"] (defScope sRAt) := ⟨rfl, rfl, rfl, by decide +kernel, rfl, by decide +kernel, by decide +kernel⟩
theorem ok_rAt (F : FnP K "_law_read_at" sRAt f fd) (O__law_figures : Own P w K mg base 1 "_law_figures" ["_law_word_here"] spFig) (O__law_read_row : Own P w K mg base 3 "_law_read_row" ["_law_row"] (spLRd K)) (g_len : mg "len" = none) (g_min : mg "min" = none) (g_tuple : mg "tuple" = none) : FnOk P w K mg base CX0 4 f fd ["_law_rows", "_law_at"] (spRAt K) := by
  have nd := scRAt.nd
  refine F.ok scRAt (fun vs H Q E h => ?_) (fun cdv A outer s H vs Q E hr h => ⟨_, PSs.nox (pss_cons (ps_set (i := 2) nd rfl (.inl rfl) (pe_split (pe_ix (r := rIxL K) ix_list (pv 0) (pv 1) (fun _ _ => rfl)) pe_str))
  (pss_cons (ps_set (i := 3) nd rfl (.inl rfl) (pe_ifExp (PW.pt (pw_and (pt_cmpR op_eq (pe_ix (r := rIxL K) ix_list (pv 2) pe_int (fun _ _ => rfl)) pe_str (nomark _)) (pw_and1 (pt_cmpR op_eq (pe_callB (r := Evl.rLenS K) call_len_seq (by rfl) g_len PySem.boot_len (pa_cons (pv 2) pa_nil)) pe_int (nomark _))))) (Hs.pe_own O__law_figures hr (by first | decide | omega) (by rfl) (pa_cons (pe_ix (r := rIxL K) ix_list (pv 2) pe_int (fun _ _ => rfl)) pa_nil)) pe_non))
  (pss_cons (ps_if (PW.pt (pw_or (pt_cmpR op_isN (pv 3) pe_non (nomark _)) (pw_or1 (pt_cmpR op_lt (pv 3) pe_int (nomark _))))) (pss_cons (ps_set (i := 4) nd rfl (.inl rfl) (Hs.pe_own O__law_read_row hr (by first | decide | omega) (by rfl) (pa_cons (pe_ix (r := rIxL K) ix_list (pv 0) (pv 1) (fun _ _ => rfl)) pa_nil)))
  (pss_one (ps_ret (pe_ifExp (pt_cmpR op_notN (pv 4) pe_non (nomark _)) (pe_tup (pa_cons (pv 4) (pa_cons (pe_op op_add (pv 1) pe_int) pa_nil))) (pe_tup (pa_cons pe_non (pa_cons (pv 1) pa_nil))))))) pss_nil)
  (pss_cons (ps_setLc (i := 5) (own := [("_law_row", 6)]) rfl nd rfl rfl (sw_true rfl rfl rfl (by decide +kernel)) (pi_list (pe_slice sl_list (pv 0) (po_some (pe_op op_add (pv 1) pe_int)) (po_some (pe_op op_add (pe_op op_add (pv 1) pe_int) (pe_callB (call_min2 rfl) (by rfl) g_min (by decide +kernel) (pa_cons (pv 3) (pa_cons (pe_callB (r := Evl.rLenS K) call_len_seq (by rfl) g_len PySem.boot_len (pa_cons (pv 0) pa_nil)) pa_nil))))))) (blkOk_by (N := ["_law_rows", "_law_at", "_law_words", "_law_many", "_law_deed", "_law_some", "_law_row"]) (sc := defScope (Hs.top 26)) (by decide +kernel)) (fun _ _ _ _ _ => (pg_name (i := 6) nd rfl (Or.inl rfl))) (fun _ _ _ _ _ => pts_nil) (fun _ _ _ _ _ => (Hs.pe_own O__law_read_row hr (by first | decide | omega) (by rfl) (pa_cons (pv 6) pa_nil))))
  (pss_cons (ps_if (pt_cmpR (op_inD (Hs.un65 hr)) pe_non (pv 5) (by rfl)) (pss_one (ps_ret (pe_tup (pa_cons pe_non (pa_cons (pe_op op_add (pe_op op_add (pv 1) pe_int) (pe_bm PySem.F.plainAttrs_list PySem.F.slot_list_index PySem.F.type_list_index (mt_indexD (Hs.un65 hr)) (pv 5) (pa_cons pe_non pa_nil))) pa_nil))))) pss_nil)
  (pss_one (ps_ret (pe_ifExp (pt_cmpR op_eq (pe_callB (r := Evl.rLenS K) call_len_seq (by rfl) g_len PySem.boot_len (pa_cons (pv 5) pa_nil)) (pv 3) (nomark _)) (pe_tup (pa_cons (pe_tup (pa_cons pe_str (pa_cons (pe_callTy call_tuple_of (by rfl) g_tuple (by decide +kernel) (pa_cons (pv 5) pa_nil)) pa_nil))) (pa_cons (pe_op op_add (pe_op op_add (pv 1) pe_int) (pv 3)) pa_nil))) (pe_tup (pa_cons pe_non (pa_cons (pe_callB (r := Evl.rLenS K) call_len_seq (by rfl) g_len PySem.boot_len (pa_cons (pv 0) pa_nil)) pa_nil))))))))))), ?_⟩)
  · obtain ⟨a, rows, rfl, _⟩ := h
    rfl
  · obtain ⟨a, rows, rfl, hS, hne, hl, hA, k0, k1⟩ := h
    cases rows with
    | nil => exact absurd rfl hne
    | cons r0 rest =>
      rw [List.length_cons] at hl
      have hA0 := hA r0 List.mem_cons_self
      have h0l := hA0.2
      have hAr : ∀ r ∈ rest, Asc r := fun r hr => hA r (List.mem_cons_of_mem _ hr)
      obtain ⟨hw, hn⟩ := asc_split (y := " ") hA0 (by decide +kernel)
      have hspl := split_ne r0 " "
      refine q_asgL (el_split (t := r0) (ev_op (ev_var rfl) (ev_var rfl) (rv_ixL (K := K) hS (atI_nat (xs := (r0 :: rest).map V.str) (j := 0) rfl))) (by omega) (by decide +kernel)) fun W H1 nW e1 hW => ?_
      have hS1 := ex_l e1 hS
      have mEv : Ev (tIf
          (tAnd (tTest (tOp rEq (tOp (rIxL K) (tVar 2) (tC (V.int 0))) (tC (V.str ("many")))))
            (tTest (tOp rEq (tCB (rLenS K) (tCons (tVar 2) tNil)) (tC (V.int 2)))))
          (tCall spFig [] E0 (tCons (tOp (rIxL K) (tVar 2) (tC (V.int 1))) tNil)) (tC V.non)) [some (.ref a), some (.int 0), some (.ref W), none, none, none, none] H1 (((manyOf (Txt.split r0 " ")).map V.int).getD .non) := by
        revert hW hw
        generalize Txt.split r0 " " = sw at hspl
        intro hw hW
        match sw, hspl with
        | w :: ws, _ =>
          have t1 : Ev (tOp rEq (tOp (rIxL K) (tVar 2) (tC (V.int 0))) (tC (V.str ("many")))) [some (.ref a), some (.int 0), some (.ref W), none, none, none, none] H1 (.bl (decide (V.str w = .str "many"))) :=
            ev_op (ev_op (ev_var rfl) ev_c (rv_ixL (K := K) (v := .str w) (sq_of hW) (atI_nat (xs := (w :: ws).map V.str) (j := 0) rfl))) ev_c (rv_eq rfl)
          have t2 : Ev (tOp rEq (tCB (rLenS K) (tCons (tVar 2) tNil)) (tC (V.int 2))) [some (.ref a), some (.int 0), some (.ref W), none, none, none, none] H1 (.bl (decide (V.int (((w :: ws).map V.str).length : Int) = .int 2))) :=
            ev_op (ev_lenL (K := K) (ev_var rfl) (sq_of hW)) ev_c (rv_eq rfl)
          match ws with
          | [x] =>
            by_cases hm : w = "many"
            · have em : manyOf [w, x] = numOf x := if_pos hm
              rw [em]
              refine ev_if (b := true) (et_is (et_and (et_test t1) fun _ => et_test t2) (by rw [hm]; rfl)) (fun _ => ?_) (fun z => Bool.noConfusion z)
              exact ev_call (ea_cons (ev_op (ev_var rfl) ev_c (rv_ixL (K := K) (v := .str x) (sq_of hW) (atI_nat (xs := [w, x].map V.str) (j := 1) rfl))) ea_nil) fun H2 e2 Q2 q2 E2 => ⟨x, rfl, hw x (List.mem_cons_of_mem _ List.mem_cons_self), q2⟩
            · have em : manyOf [w, x] = none := if_neg hm
              rw [em]
              refine ev_if (b := false) (et_is (et_and (b := false) (et_test t1) fun z => ?_) (Bool.and_false _)) (fun z => Bool.noConfusion z) (fun _ => ev_c)
              have z := of_decide_eq_true z
              injection z with z
              exact absurd z hm
          | [] =>
            refine ev_if (b := false) (et_is (et_and (et_test t1) fun _ => et_test t2) (Bool.and_false _)) (fun z => Bool.noConfusion z) (fun _ => ev_c)
          | x :: y :: t =>
            refine ev_if (b := false) (et_is (et_and (et_test t1) fun _ => et_test t2) ?_) (fun z => Bool.noConfusion z) (fun _ => ev_c)
            rw [show decide (V.int (((w :: x :: y :: t).map V.str).length : Int) = .int 2) = false from decide_eq_false fun z => by injection z with z; rw [List.length_map] at z; simp only [List.length_cons] at z; omega, Bool.and_false]
      refine q_asg mEv fun H2 e2 => ?_
      have hS2 := ex_l e2 hS1
      have e12 := e1.trans e2
      clear mEv hW hw hn e1 e2 hS1 nW
      have e01 : Ev (tOp (rI0 fun i j => V.int (i + j)) (tVar 1) (tC (V.int 1))) = Ev (tOp (rI0 fun i j => V.int (i + j)) (tVar 1) (tC (V.int 1))) := rfl
      clear e01
      by_cases hk : ∃ k : Nat, manyOf (Txt.split r0 " ") = some (k : Int)
      · obtain ⟨k, hk⟩ := hk
        have ef := rdFrom_many (rest := rest) hk
        obtain ⟨hk9, _⟩ : k < 10 ^ 9 ∧ True := by
          obtain ⟨k', h1, _, h3⟩ := rd_manyrow (rd_manyof hk) rfl
          rw [hk] at h1
          injection h1 with h1
          exact ⟨by omega, trivial⟩
        rw [hk]
        refine q_when (b := false) (et_is (et_or (a := false) (b := false) (et_is (et_test (ev_op (ev_var (v := .int (k : Int)) rfl) ev_c fun H6 _ _ q6 => ⟨rfl, q6 H6 (Ex.refl _)⟩)) (decide_eq_false fun z => by cases z)) (fun _ => et_is (et_test (ev_op (ev_var (v := .int (k : Int)) rfl) ev_c fun H6 _ _ q6 => ⟨_, _, rfl, rfl, q6 H6 (Ex.refl _)⟩)) (decide_eq_false (by omega)))) rfl) (fun z => Bool.noConfusion z) (fun _ H3 e3 => ?_)
        have hS3 := ex_l e3 hS2
        have e13 := e12.trans e3
        clear hS2 e12 e3
        have one : ∀ {σ : L2.St} {H' : Hp}, σ[1]? = some (some (V.int 0)) → Ev (tOp (rI0 fun i j => V.int (i + j)) (tVar 1) (tC (V.int 1))) σ H' (.int ((1 : Nat) : Int)) := fun hs => ev_op (ev_var hs) ev_c fun H6 _ _ q6 => ⟨0, 1, rfl, rfl, q6 H6 (Ex.refl _)⟩
        have mn : Ev (tCB (fun xs H Q => ∃ i j, xs = [V.int i, V.int j] ∧ Q (V.int (if j < i then j else i)) H) (tCons (tVar 3) (tCons (tCB (rLenS K) (tCons (tVar 0) tNil)) tNil))) [some (.ref a), some (.int 0), some (.ref W), some (.int (k : Int)), none, none, none] H3 (.int ((min k (rest.length + 1) : Nat) : Int)) := fun H4 e4 Q4 q4 => ⟨_, rfl, _, rfl, a, _, rfl, .inl (ex_l e4 hS3), (k : Int), _, rfl, by
          rw [List.length_map, List.length_cons]
          have z : (if ((rest.length + 1 : Nat) : Int) < (k : Int) then ((rest.length + 1 : Nat) : Int) else (k : Int)) = ((min k (rest.length + 1) : Nat) : Int) := by
            split <;> omega
          rw [z]
          exact q4 H4 (Ex.refl _)⟩
        have hi : Ev (tOp (rI0 fun i j => V.int (i + j)) (tOp (rI0 fun i j => V.int (i + j)) (tVar 1) (tC (V.int 1))) (tCB (fun xs H Q => ∃ i j, xs = [V.int i, V.int j] ∧ Q (V.int (if j < i then j else i)) H) (tCons (tVar 3) (tCons (tCB (rLenS K) (tCons (tVar 0) tNil)) tNil)))) [some (.ref a), some (.int 0), some (.ref W), some (.int (k : Int)), none, none, none] H3 (.int ((1 + min k (rest.length + 1) : Nat) : Int)) :=
          ev_is (ev_op (one rfl) mn (fun H6 _ _ q6 => ⟨_, _, rfl, rfl, q6 H6 (Ex.refl _)⟩)) (by rw [Int.natCast_add])
        have sl := el_sl (K := K) (σ := [some (.ref a), some (.int 0), some (.ref W), some (.int (k : Int)), none, none, none]) (H := H3) (te := tVar 0) (tl := tPart (tOp (rI0 fun i j => V.int (i + j)) (tVar 1) (tC (V.int 1)))) (ev_var rfl) (eo_some (one rfl)) (eo_some hi) hS3
        have ec : cutV ((r0 :: rest).map V.str) (some ((1 : Nat) : Int)) (some ((1 + min k (rest.length + 1) : Nat) : Int)) = (rest.take k).map V.str := by
          rw [cutV_nat, show 1 + min k (rest.length + 1) - 1 = min k (rest.length + 1) by omega, ← List.map_drop, List.drop_succ_cons, List.drop_zero, ← List.map_take]
          congr 1
          by_cases h : k ≤ rest.length
          · rw [Nat.min_eq_left (by omega)]
          · rw [List.take_of_length_le (by omega), List.take_of_length_le (by omega)]
        rw [ec] at sl
        have hlt : (rest.take k).length = min k rest.length := List.length_take
        have hAt : ∀ r ∈ rest.take k, Asc r := fun r hr => hAr r (List.mem_of_mem_take hr)
        refine q_te (lc_mkL (K := K) (fun i v H' => ∀ r, (rest.take k)[i]? = some r → OptW K H' v (rdOne r)) (fun i v _ _ kp h p hp => (h p hp).kp kp) sl (by rw [List.length_map]; omega) (fun _ => rfl) (fun i x H' Q' e' hi kq => ?_) (fun D ys H4 nD e4 hD hly hys => ?_))
        · obtain ⟨r, hp, rfl⟩ := str_at hi
          have kq' : ∀ v H2, Ex H' H2 → OptW K H2 v (rdOne r) → Q' v H2 := fun v H2 e hv => kq v H2 e fun p' hp' => by
            rw [hp] at hp'
            cases hp'
            exact hv
          refine ⟨_, rfl, r, rfl, hAt r (List.mem_of_getElem? hp), fun hr H2 e2 => kq' _ H2 e2 (by rw [hr]; rfl), fun d hd p H2 e2 hv => kq' _ H2 e2 (by rw [hd]; exact ⟨p, rfl, hv⟩)⟩
        · rw [List.length_map] at hly
          have hopt : ∀ (i : Nat) (v : V) (o : Option WD), ys[i]? = some v → ((rest.take k).map rdOne)[i]? = some o → OptW K H4 v o := fun i v o hv ho => by
            rw [List.getElem?_map] at ho
            obtain ⟨p, hp, rfl⟩ := Option.map_eq_some_iff.mp ho
            exact hys i v hv p hp
          have hrok : ∀ o ∈ (rest.take k).map rdOne, ∀ d, o = some d → d.rok := fun o ho d hd => by
            obtain ⟨r, hr, rfl⟩ := List.mem_map.mp ho
            exact (rdOne_rok (hAt r hr) hd).1
          have hS4 := ex_l e4 hS3
          have e14 := e13.trans e4
          clear hys sl ec hS3 e13 e4
          have lyo : ys.length = ((rest.take k).map rdOne).length := by rw [List.length_map, hly]
          have tIn : EvT (tTest (tOp (rInD K) (tC V.non) (tVar 5))) [some (.ref a), some (.int 0), some (.ref W), some (.int (k : Int)), none, some (.ref D), none] H4 (((rest.take k).map rdOne).any Option.isNone) :=
            et_test (ev_op ev_c (ev_var rfl) fun H5 e5 Q5 q5 => ⟨.none, _, .non, .lst (sq_of (e5 _ _ hD)) (dpAll_osD lyo hrok fun i v o hv ho => (hopt i v o hv ho).kp (Kp.of e5)), by decide +kernel, osD_shaped hrok, by rw [osD_none]; exact q5 H5 (Ex.refl _)⟩)
          cases hsm : rdSome (rest.take k) 1 with
          | inl b =>
            rw [hsm] at ef
            obtain ⟨m, hb, hm1, hm2⟩ := rdSome_inl hsm
            have hany : ((rest.take k).map rdOne).any Option.isNone = true := List.any_eq_true.mpr ⟨none, List.mem_of_getElem? hm1, rfl⟩
            rw [hany] at tIn
            refine q_when (b := true) tIn (fun _ H5 e5 => ?_) (fun z => Bool.noConfusion z)
            have idx : Ev (tBM K "list" (rIndexD K) (tVar 5) (tCons (tC V.non) tNil)) [some (.ref a), some (.int 0), some (.ref W), some (.int (k : Int)), none, some (.ref D), none] H5 (.int ((m : Nat) : Int)) := by
              exact fun H6 e6 Q6 q6 => ⟨_, rfl, .inl ⟨rfl, _, sq_of (e6 _ _ (e5 _ _ hD))⟩, D, .non, .none, ((rest.take k).map rdOne).map oD, m, .none, rfl, rfl, .lst (sq_of (e6 _ _ (e5 _ _ hD))) (dpAll_osD lyo hrok fun i v o hv ho => (hopt i v o hv ho).kp (Kp.of (e5.trans e6))), .non, osD_shaped hrok, by decide +kernel, by rw [List.getElem?_map, hm1] <;> rfl, by rfl, fun i z hi hz => by
                obtain ⟨d, hd⟩ := hm2 i hi
                rw [List.getElem?_map, hd] at hz
                cases hz
                exact oD_none (some d), q6 H6 (Ex.refl _)⟩
            have sum : Ev (tOp (rI0 fun i j => V.int (i + j)) (tOp (rI0 fun i j => V.int (i + j)) (tVar 1) (tC (V.int 1))) (tBM K "list" (rIndexD K) (tVar 5) (tCons (tC V.non) tNil))) [some (.ref a), some (.int 0), some (.ref W), some (.int (k : Int)), none, some (.ref D), none] H5 (.int ((1 + m : Nat) : Int)) :=
              ev_is (ev_op (one rfl) idx (fun H6 _ _ q6 => ⟨_, _, rfl, rfl, q6 H6 (Ex.refl _)⟩)) (by rw [Int.natCast_add])
            have fin := eu_tup (σ := [some (.ref a), some (.int 0), some (.ref W), some (.int (k : Int)), none, some (.ref D), none]) (H := H5) (ea_cons (ev_c (v := .non)) (ea_cons sum ea_nil)) (by simp)
            refine s_retU fin fun p H6 np e6 hp => k0 b ef p H6 ((e14.trans e5).trans e6) ?_
            rw [hb]
            exact st_of hp
          | inr ds =>
            rw [hsm] at ef
            have hds := rdSome_inr hsm
            have hany : ((rest.take k).map rdOne).any Option.isNone = false := by
              rw [hds, List.any_map, List.any_eq_false]
              intro d _ z
              cases z
            rw [hany] at tIn
            refine q_when (b := false) tIn (fun z => Bool.noConfusion z) (fun _ H5 e5 => ?_)
            have hD5 := e5 _ _ hD
            have hS5 := ex_l e5 hS4
            have e15 := e14.trans e5
            have lds : ds.length = min k rest.length := by
              have z := congrArg List.length hds
              rw [List.length_map, List.length_map, hlt] at z
              exact z.symm
            rw [hds, List.length_map] at lyo
            obtain ⟨ps, hps, hlps, hpsv⟩ : ∃ ps : List Addr, ys = ps.map V.ref ∧ ps.length = ds.length ∧ ∀ (i : Nat) (p : Addr) (d : WD), ps[i]? = some p → ds[i]? = some d → DeedV K H4 p d := by
              rw [hds] at hopt
              clear hds hsm hly hD hD5 hany tIn ef lds hrok
              revert lyo hopt
              generalize ds = rs
              intro hopt lyr
              induction ys generalizing rs with
              | nil =>
                cases rs with
                | nil => exact ⟨[], rfl, rfl, fun _ _ _ h _ => by cases h⟩
                | cons _ _ => cases lyr
              | cons y t ih =>
                cases rs with
                | nil => cases lyr
                | cons r rt =>
                  obtain ⟨ps, h1, h2, h3⟩ := ih rt (fun i v o hv ho => hopt (i + 1) v o hv ho) (Nat.succ.inj lyr)
                  obtain ⟨q, hq1, hq2⟩ := hopt 0 y (some r) rfl rfl
                  refine ⟨q :: ps, by rw [hq1, h1] <;> rfl, by rw [List.length_cons, List.length_cons, h2], fun i p r' hp hr => ?_⟩
                  cases i with
                  | zero =>
                    cases hp
                    cases hr
                    exact hq2
                  | succ i => exact h3 i p r' hp hr
            subst hps
            have tl : EvT (tTest (tOp rEq (tCB (rLenS K) (tCons (tVar 5) tNil)) (tVar 3))) [some (.ref a), some (.int 0), some (.ref W), some (.int (k : Int)), none, some (.ref D), none] H5 (!decide (rest.length < k)) :=
              et_is (et_test (ev_op (ev_lenL (K := K) (ev_var rfl) (sq_of hD5)) (ev_var (v := .int (k : Int)) rfl) (rv_eq rfl))) (by
                rw [List.length_map, hlps, lds]
                by_cases h : rest.length < k
                · rw [decide_eq_true h]
                  exact decide_eq_false fun z => by injection z with z; omega
                · rw [decide_eq_false h, Nat.min_eq_left (by omega)]
                  exact decide_eq_true rfl)
            by_cases hlk : rest.length < k
            · have ef : rdFrom (r0 :: rest) = .inl (rest.length + 1) := ef.trans (if_pos hlk)
              rw [decide_eq_true hlk] at tl
              have fin := eu_tup (σ := [some (.ref a), some (.int 0), some (.ref W), some (.int (k : Int)), none, some (.ref D), none]) (H := H5) (ea_cons (ev_c (v := .non)) (ea_cons (ev_lenL (K := K) (ev_var (i := 0) rfl) hS5) ea_nil)) (by simp)
              refine tl H5 (Ex.refl _) _ fun H6 e6 => ite_F rfl (fin H6 e6 _ fun p H7 np e7 hp => k0 _ ef p H7 ((e15.trans e6).trans e7) ?_)
              rw [List.length_map, List.length_cons] at hp
              exact st_of hp
            · have ef : rdFrom (r0 :: rest) = .inr (.many ds, 1 + k) := ef.trans (if_neg hlk)
              rw [decide_eq_false hlk] at tl
              refine tl H5 (Ex.refl _) _ fun H6 e6 => ite_T rfl ⟨_, rfl, D, ps.map V.ref, rfl, .inl ⟨sq_of (e6 _ _ hD5), fun c hc => ⟨sz_of (by simp), fun q hq => ?_⟩⟩⟩
              have ec := Ex.new (o := .tup (ps.map V.ref)) hc
              have eq := Ex.new (o := .tup [V.str "many", .ref c]) hq
              have e26 := ((e5.trans e6).trans ec).trans eq
              have hc' := eq _ _ (upd_same (H := H6) (a := c) (o := .tup (ps.map V.ref)))
              have hq' := upd_same (H := upd H6 c (.tup (ps.map V.ref))) (a := q) (o := .tup [V.str "many", .ref c])
              have eall := ((e15.trans e6).trans ec).trans eq
              clear ec eq hq hc
              revert hc' hq' e26 eall
              generalize upd (upd H6 c (.tup (ps.map V.ref))) q (.tup [V.str "many", .ref c]) = H7
              intro e26 hc' hq' eall
              have sum : Ev (tOp (rI0 fun i j => V.int (i + j)) (tOp (rI0 fun i j => V.int (i + j)) (tVar 1) (tC (V.int 1))) (tVar 3)) [some (.ref a), some (.int 0), some (.ref W), some (.int (k : Int)), none, some (.ref D), none] H7 (.int ((1 + k : Nat) : Int)) :=
                ev_is (ev_op (one rfl) (ev_var (v := .int (k : Int)) rfl) (fun H6 _ _ q6 => ⟨_, _, rfl, rfl, q6 H6 (Ex.refl _)⟩)) (by rw [Int.natCast_add])
              refine sum H7 (Ex.refl _) _ fun H8 e8 => ⟨sz_of (by simp), fun t ht => ?_⟩
              have et := Ex.new (o := .tup [V.ref q, .int ((1 + k : Nat) : Int)]) ht
              have e79 := e8.trans et
              exact k1 _ _ ef t q _ (eall.trans e79) (st_of upd_same) ⟨c, ps, st_of (e79 _ _ hq'), st_of (e79 _ _ hc'), hlps, fun i p d hp hd => DeedV.ext (e26.trans e79) (hpsv i p d hp hd)⟩
      · have hk' : ∀ k : Nat, manyOf (Txt.split r0 " ") ≠ some (k : Int) := fun k z => hk ⟨k, z⟩
        have ef := rdFrom_one (rest := rest) hk'
        refine q_when (b := true) (fun H3 e3 Q3 q3 => ?_) (fun _ H3 e3 => ?_) (fun z => Bool.noConfusion z)
        · cases hm : manyOf (Txt.split r0 " ") with
          | none =>
            exact et_is (et_or (a := true) (b := false) (et_test (ev_op (ev_var (v := .non) rfl) ev_c fun H6 _ _ q6 => ⟨rfl, q6 H6 (Ex.refl _)⟩)) (fun z => Bool.noConfusion z)) rfl H3 e3 Q3 q3
          | some n =>
            have hneg : n < 0 := by
              by_cases h : n < 0
              · exact h
              · exact absurd (by rw [hm, Int.toNat_of_nonneg (by omega)]) (hk' n.toNat)
            exact et_is (et_or (a := false) (b := true) (et_is (et_test (ev_op (ev_var (v := .int n) rfl) ev_c fun H6 _ _ q6 => ⟨rfl, q6 H6 (Ex.refl _)⟩)) (decide_eq_false fun z => by cases z)) (fun _ => et_is (et_test (ev_op (ev_var (v := .int n) rfl) ev_c fun H6 _ _ q6 => ⟨_, _, rfl, rfl, q6 H6 (Ex.refl _)⟩)) (decide_eq_true hneg))) rfl H3 e3 Q3 q3
        · have hS3 := ex_l e3 hS2
          have e13 := e12.trans e3
          refine q_te ?_
          refine (ev_op (ev_var rfl) (ev_var rfl) (rv_ixL (K := K) hS3 (atI_nat (xs := (r0 :: rest).map V.str) (j := 0) rfl)) : Ev (tOp (rIxL K) (tVar 0) (tVar 1)) _ _ (.str r0)) H3 (Ex.refl _) _ fun H4 e4 => ⟨r0, rfl, hA0, fun hr H5 e5 => ?_, fun d hd p H5 e5 hv => ?_⟩
          · rw [hr] at ef
            refine s_ret2 (et_is (et_test (ev_op (ev_var (v := .non) rfl) ev_c fun H6 _ _ q6 => ⟨rfl, q6 H6 (Ex.refl _)⟩)) rfl) (eu_tup (ea_cons (ev_c (v := .non)) (ea_cons (ev_var (v := .int 0) rfl) ea_nil)) (by simp)) fun q H6 e6 hq => k0 _ ef q H6 (((e13.trans e4).trans e5).trans e6) (st_of hq)
          · rw [hd] at ef
            refine s_ret1 (et_is (et_test (ev_op (ev_var (v := .ref p) rfl) ev_c fun H6 _ _ q6 => ⟨rfl, q6 H6 (Ex.refl _)⟩)) (congrArg not (decide_eq_false fun z => by cases z))) (eu_tup (ea_cons (ev_var (v := .ref p) rfl) (ea_cons (ev_op (z := .int 1) (ev_var (v := .int 0) rfl) ev_c fun H6 _ _ q6 => ⟨_, _, rfl, rfl, q6 H6 (Ex.refl _)⟩) ea_nil)) (by simp)) fun q H6 e6 hq => k1 _ _ ef q p H6 (((e13.trans e4).trans e5).trans e6) (st_of hq) (DeedV.ext e6 hv)
end
end Hs
namespace Hs
open PySem PySem.Spec PyProof.Rows L2 Evl
section
variable {P : Program} {w : World} {K : PySem.W.Frag} {mg : Str → Option Value} {base : Heap} {f : Addr} {fd : FuncData}
def spTDue (K : PySem.W.Frag) : Sp := fun vs H Q _ => ∃ t : Str, vs = [.str t] ∧ Asc t ∧ (∀ b : Nat, rdText t = .inl b → ∀ (p : Addr) (H' : Hp), Ex H H' → SqT K H' p [.str "badtext", .int (b : Int)] → Q (.ref p) H') ∧
  ∀ dd, rdText t = .inr dd → ∀ (p q : Addr) (H' : Hp), Ex H H' → SqT K H' p [.str "told", .ref q] → DDV K H' q dd → Q (.ref p) H'
abbrev sTDue : Stmt := top 32
theorem scTDue : FnScope ["_law_text", "_law_rows", "_law_deed", "_law_end"] ["_law_text"] (defScope sTDue) := ⟨rfl, rfl, rfl, by decide +kernel, rfl, by decide +kernel, by decide +kernel⟩
theorem ok_tDue (F : FnP K "_law_text_due" sTDue f fd) (O__law_read_at : Own P w K mg base 4 "_law_read_at" ["_law_rows", "_law_at"] (spRAt K)) (g_len : mg "len" = none) : FnOk P w K mg base CX0 5 f fd ["_law_text"] (spTDue K) := by
  have nd := scTDue.nd
  refine F.ok scTDue (fun vs H Q E h => ?_) (fun cdv A outer s H vs Q E hr h => ⟨_, PSs.nox (pss_cons (ps_set (i := 1) nd rfl (.inl rfl) (pe_split (pv 0) pe_str))
  (pss_cons (ps_asg (Hs.pe_own O__law_read_at hr (by first | decide | omega) (by rfl) (pa_cons (pv 1) (pa_cons pe_int pa_nil))) (pg_tup rfl (pgs_cons (pg_name (i := 2) nd rfl (.inl rfl)) (pgs_cons (pg_name (i := 3) nd rfl (.inl rfl)) pgs_nil))))
  (pss_cons (ps_if (PW.pt (pw_or (pt_cmpR op_isN (pv 2) pe_non (nomark _)) (pw_or1 (pt_cmpR op_lt (pv 3) (pe_callB (r := Evl.rLenS K) call_len_seq (by rfl) g_len PySem.boot_len (pa_cons (pv 1) pa_nil)) (nomark _))))) (pss_one (ps_ret (pe_tup (pa_cons pe_str (pa_cons (pv 3) pa_nil))))) pss_nil)
  (pss_one (ps_ret (pe_tup (pa_cons pe_str (pa_cons (pv 2) pa_nil)))))))), ?_⟩)
  · obtain ⟨a, rfl, _⟩ := h
    rfl
  · obtain ⟨t, rfl, hA, k0, k1⟩ := h
    obtain ⟨hw, hn⟩ := asc_split (y := "\n") hA (by decide +kernel)
    have hne := split_ne t "\n"
    have hl := hA.2
    unfold rdText at k0 k1
    refine q_asgL (el_split (ev_var rfl) (by omega) (by decide +kernel)) fun W H1 nW e1 hW => ?_
    revert hW
    generalize Txt.split t "\n" = rows at hw hn hne k0 k1 ⊢
    intro hW
    refine q_callG (ea_cons (ev_var (v := .ref W) rfl) (ea_cons ev_c ea_nil)) fun H2 e2 => ⟨W, rows, rfl, sq_of (e2 _ _ hW), hne, hn, hw, fun b hb p H3 e3 hp => ?_, fun dd n hd p q H3 e3 hp hq => ?_⟩
    · rw [hb] at k0
      refine ⟨p, _, rfl, hp, rfl, ?_⟩
      refine ⟨_, _, rfl, _, _, rfl, rfl, ?_⟩
      dsimp only [List.set]
      refine q_when (b := true) (et_is (et_or (a := true) (b := false) (et_test (ev_op (ev_var (v := .non) rfl) ev_c fun H6 _ _ q6 => ⟨rfl, q6 H6 (Ex.refl _)⟩)) (fun z => Bool.noConfusion z)) rfl) (fun _ H4 e4 => ?_) (fun z => Bool.noConfusion z)
      exact s_retU (eu_tup (ea_cons (ev_c (v := .str "badtext")) (ea_cons (ev_var (v := .int (b : Int)) rfl) ea_nil)) (by simp)) fun q H5 nq e5 hq => k0 b rfl q H5 ((((e1.trans e2).trans e3).trans e4).trans e5) (st_of hq)
    · rw [hd] at k0 k1
      have k0 : ∀ b : Nat, (if n < rows.length then Sum.inl n else (Sum.inr dd : Sum Nat DD)) = .inl b → ∀ (p : Addr) (H' : Hp), Ex H H' → SqT K H' p [.str "badtext", .int (b : Int)] → Q (.ref p) H' := k0
      have k1 : ∀ d2 : DD, (if n < rows.length then Sum.inl n else (Sum.inr dd : Sum Nat DD)) = .inr d2 → ∀ (p q : Addr) (H' : Hp), Ex H H' → SqT K H' p [.str "told", .ref q] → DDV K H' q d2 → Q (V.ref p) H' := k1
      refine ⟨p, _, rfl, hp, rfl, ?_⟩
      refine ⟨_, _, rfl, _, _, rfl, rfl, ?_⟩
      dsimp only [List.set]
      have t2 : EvT (tTest (tOp (rI0 fun i j => V.bl (decide (i < j))) (tVar 3) (tCB (rLenS K) (tCons (tVar 1) tNil)))) [some (.str t), some (.ref W), some (.ref q), some (.int (n : Int))] H3 (decide (n < rows.length)) :=
        et_is (et_test (ev_op (ev_var (v := .int (n : Int)) rfl) (ev_lenL (K := K) (ev_var (v := .ref W) rfl) (sq_of ((e2.trans e3) _ _ hW))) fun H6 _ _ q6 => ⟨_, _, rfl, rfl, q6 H6 (Ex.refl _)⟩)) (by
          rw [List.length_map]
          by_cases hq : n < rows.length
          · rw [decide_eq_true hq, decide_eq_true (by omega)]
          · rw [decide_eq_false hq, decide_eq_false (by omega)])
      have tst : EvT (tOr (tTest (tOp (fun x y H Q => y = V.non ∧ Q (V.bl (decide (x = V.non))) H) (tVar 2) (tC V.non))) (tTest (tOp (rI0 fun i j => V.bl (decide (i < j))) (tVar 3) (tCB (rLenS K) (tCons (tVar 1) tNil))))) [some (.str t), some (.ref W), some (.ref q), some (.int (n : Int))] H3 (decide (n < rows.length)) :=
        et_is (et_or (et_nonR rfl) fun _ => t2) (Bool.false_or _)
      by_cases hnl : n < rows.length
      · rw [decide_eq_true hnl] at tst
        rw [if_pos hnl] at k0
        refine q_when (b := true) tst (fun _ H4 e4 => ?_) (fun ht => Bool.noConfusion ht)
        exact s_retU (eu_tup (ea_cons (ev_c (v := .str "badtext")) (ea_cons (ev_var (v := .int (n : Int)) rfl) ea_nil)) (by simp)) fun q H5 nq e5 hq => k0 n rfl q H5 ((((e1.trans e2).trans e3).trans e4).trans e5) (st_of hq)
      · rw [decide_eq_false hnl] at tst
        rw [if_neg hnl] at k1
        refine q_when (b := false) tst (fun ht => Bool.noConfusion ht) (fun _ H4 e4 => ?_)
        exact s_retU (eu_tup (ea_cons (ev_c (v := .str "told")) (ea_cons (ev_var (v := .ref q) rfl) ea_nil)) (by simp)) fun p2 H5 nq e5 hp2 => k1 dd rfl p2 q H5 ((((e1.trans e2).trans e3).trans e4).trans e5) (st_of hp2) (DDV.ext (e4.trans e5) hq)
end
end Hs
namespace Hs
open PySem PySem.Spec PyProof.Rows L2 Evl
theorem cut63 {xs : List V} (h : xs.length ≤ 63) : cutV xs none (some 63) = xs := by
  have e1 : HT.sIx xs.length 0 none = 0 := rfl
  have e2 : HT.sIx xs.length xs.length (some 63) = xs.length := by
    show min (63 : Int).toNat xs.length = xs.length
    omega
  unfold cutV
  rw [e1, e2, List.drop_zero, Nat.sub_zero, List.take_length]
section
variable {P : Program} {w : World} {K : PySem.W.Frag} {mg : Str → Option Value} {base : Heap} {f : Addr} {fd : FuncData}
abbrev sBag : Stmt := top 18
theorem scBag : FnScope ["_law_script", "_law_salt", "_law_cell"] ["_law_script"] (defScope sBag) := ⟨rfl, rfl, rfl, by decide +kernel, rfl, by decide +kernel, by decide +kernel⟩
theorem ok_bag (F : FnP K "_law_bag" sBag f fd) (g_len : mg "len" = none) (g_list : mg "list" = none) : FnOk P w K mg base CX0 1 f fd ["_law_script"] (spBag K) := by
  have nd := scBag.nd
  refine F.ok scBag (fun vs H Q E h => ?_) (fun cdv A outer s H vs Q E hr h => ⟨_, PSs.nox (pss_cons (ps_set (i := 1) nd rfl (.inl rfl) (pe_op op_add pe_int (pe_callB (r := Evl.rLenS K) call_len_seq (by rfl) g_len PySem.boot_len (pa_cons (pe_slice sl_list (pv 0) po_none (po_some pe_int)) pa_nil))))
  (pss_cons (ps_for PassesOwn.never rfl (pi_list (pe_slice sl_list (pv 0) po_none (po_some pe_int))) (pg_name (i := 2) nd rfl (.inl rfl)) (pss_one (ps_set (i := 1) nd rfl (.inl rfl) (pe_op op_modN (pe_op op_add (pe_op op_add (pe_op op_mulW (pv 1) pe_int) (pe_op op_modN (pv 2) pe_int)) pe_int) pe_int))))
  (pss_one (ps_ret (pe_lst (pa_cons (pe_callTy (r := Evl.rListS K) call_list_of (by rfl) g_list (by decide +kernel) (pa_cons (pe_slice sl_list (pv 0) po_none (po_some pe_int)) pa_nil)) (pa_cons pe_int (pa_cons pe_int (pa_cons (pv 1) (pa_cons pe_int pa_nil)))))))))), ?_⟩)
  · obtain ⟨a, ns, rfl, _⟩ := h
    rfl
  · obtain ⟨a, ns, rfl, hS, hl, k⟩ := h
    have hl2 : (ns.map V.int).length ≤ 63 := by rw [List.length_map]; exact hl
    have sl : ∀ {σ : L2.St} {H' : Hp}, σ[0]? = some (some (.ref a)) → Ex H H' → EvL (tSl (rSlL K) (tVar 0) tNoPart (tPart (tC (.int 63)))) σ H' (ns.map V.int) := fun {σ H'} h0 e => by
      have q := el_sl (K := K) (σ := σ) (H := H') (ev_var h0) eo_none (eo_some (i := 63) ev_c) (ex_l e hS)
      rw [cut63 hl2] at q
      exact q
    refine q_asg (ev_op ev_c (ev_lenN (sl rfl (Ex.refl H))) rv_I0) fun H1 e1 => ?_
    refine q_forNLn (sl rfl e1) (fun p i σ' H' => Ex H H' ∧ H' p = some (.lst (ns.map V.int)) ∧ ∃ (s0 : Int) (v : Option V), σ' = [some (.ref a), some (.int s0), v] ∧ 0 ≤ s0 ∧ s0 < 2147483647) ?_ ?_ ?_ ?_
    · intro p H2 hp e2 h2
      exact ⟨e1.trans e2, h2, _, none, rfl, by omega, by omega⟩
    · rintro p i σ' H' hi ⟨_, h, _⟩
      exact sq_of h
    · rintro p i x σ' H' hx ⟨e, h, s0, v, rfl, h0, h1⟩
      obtain ⟨z, rfl⟩ : ∃ z, x = V.int z := by
        rw [List.getElem?_map] at hx
        cases ez : ns[i]? with
        | none =>
          rw [ez] at hx
          cases hx
        | some z =>
          rw [ez] at hx
          exact ⟨z, (Option.some.inj hx).symm⟩
      refine s_asg (ev_op (ev_op (ev_op (ev_op (ev_var rfl) ev_c (rv_I (mul64 (by omega) (by decide)))) (ev_op (ev_var rfl) ev_c (rv_I (show (2147483629 : Int) ≠ 0 by decide))) rv_I0) ev_c rv_I0) ev_c (rv_I (show (2147483647 : Int) ≠ 0 by decide))) fun H2 e2 => ?_
      have hp := modP (i := s0 * 48271 + z.fmod 2147483629 + 7) (j := 2147483647) (by decide)
      exact ⟨e.trans e2, e2 _ _ h, _, _, rfl, hp.1, hp.2⟩
    · rintro p σ' H' ⟨e, h, s0, v, rfl, h0, h1⟩
      refine sl (σ := [some (.ref a), some (.int s0), v]) rfl e H' (Ex.refl _) _ fun q H2 hq e2 h2 => ⟨q, _, rfl, .inl (sq_of h2), fun l hl3 => ⟨_, rfl, sz_of (by simp), fun b hb3 => ?_⟩⟩
      have hne : l ≠ b := fun z => by
        rw [← z, upd_same] at hb3
        cases hb3
      have e3 : Ex H (upd H2 l (.lst (ns.map V.int))) := (e.trans e2).trans (Ex.new hl3)
      refine k b l _ (fresh_back e3 hb3) (fresh_back (e.trans e2) hl3) ⟨⟨0, 0, s0, 0, upd_same, Nat.zero_le _, h0, h1, Nat.le_refl _⟩, ?_, Ne.symm hne⟩ (e3.trans (Ex.new hb3))
      rw [upd_ne hne, upd_same]
end
end Hs
namespace Hs
open PySem PySem.Spec PyProof.Rows L2 Evl
/-! ### two data alike: the law's own comparison -/
def Sm (K : PySem.W.Frag) (H : Hp) : Nat → V → V → Prop
  | 0, _, _ => False
  | d + 1, u, v => (u = v ∧ flatV u = true) ∨ ∃ (a b : Addr) (xs ys : List V), u = .ref a ∧ v = .ref b ∧ ((SqL K H a xs ∧ SqL K H b ys) ∨ (SqT K H a xs ∧ SqT K H b ys)) ∧ xs.length = ys.length ∧ xs.length ≤ 15010 ∧
      ∀ (i : Nat) (x y : V), xs[i]? = some x → ys[i]? = some y → Sm K H d x y
theorem Sm.ext {K : PySem.W.Frag} {H H' : Hp} (e : Ex H H') : ∀ {d : Nat} {u v : V}, Sm K H d u v → Sm K H' d u v
  | 0, _, _, h => h.elim
  | d + 1, u, v, h => by
    rcases h with h | ⟨a, b, xs, ys, h1, h2, h3, h4, h5, h6⟩
    · exact .inl h
    · refine .inr ⟨a, b, xs, ys, h1, h2, ?_, h4, h5, fun i x y hx hy => Sm.ext e (h6 i x y hx hy)⟩
      rcases h3 with ⟨p, q⟩ | ⟨p, q⟩
      · exact .inl ⟨ex_l e p, ex_l e q⟩
      · exact .inr ⟨ex_t e p, ex_t e q⟩
def spSame (K : PySem.W.Frag) (d : Nat) : Sp := fun vs H Q _ => ∃ u v : V, vs = [u, v] ∧ Sm K H d u v ∧ RetV (.bl true) H Q
/-- of the built-in type t, whatever is new -/
def Ty (K : PySem.W.Frag) (H : Hp) (x : V) (t : String) : Prop := ∀ H1, Ex H H1 → TyX K H1 x (.type t)
theorem ty_l {K : PySem.W.Frag} {H : Hp} {a : Addr} {xs : List V} (h : SqL K H a xs) : Ty K H (.ref a) "list" := fun H1 e => by
  rcases ex_l e h with (h | ⟨o, h⟩) | ⟨o, its, n, h1, h2, _⟩
  · exact .base (.lst h)
  · exact .base (.frz h)
  · exact .kList h1 h2
theorem ty_t {K : PySem.W.Frag} {H : Hp} {a : Addr} {xs : List V} (h : SqT K H a xs) : Ty K H (.ref a) "tuple" := fun H1 e => by
  rcases ex_t e h with (h | ⟨o, h⟩) | ⟨o, its, n, h1, h2, _⟩
  · exact .base (.tup h)
  · exact .fTuple h
  · exact .kTuple h1 h2
theorem ty_bl {K : PySem.W.Frag} {H : Hp} {b : Bool} : Ty K H (.bl b) "bool" := fun _ _ => .base (.bl b)
theorem ty_int {K : PySem.W.Frag} {H : Hp} {b : Int} : Ty K H (.int b) "int" := fun _ _ => .base (.int b)
theorem ty_str {K : PySem.W.Frag} {H : Hp} {b : Str} : Ty K H (.str b) "str" := fun _ _ => .base (.str b)
theorem ev_isi {K : PySem.W.Frag} {σ : L2.St} {H : Hp} {te : TE} {x : V} {t c : String} {b : Bool} (h : Ev te σ H x) (ht : Ty K H x t) (hk : kitB t c = some b) : Ev (tCB (rIsi K) (tCons te (tCons (tC (.ty c)) tNil))) σ H (.bl b) := fun H1 e Q q =>
  h H1 e _ fun H2 e2 => ⟨x, .ty c, .type t, .type c, b, rfl, .ty c, ht H2 (e.trans e2), kit_ty hk, q H2 e2⟩
theorem ev_isi2 {K : PySem.W.Frag} {σ : L2.St} {H : Hp} {te : TE} {x : V} {t c c' : String} {b b' : Bool} (h : Ev te σ H x) (ht : Ty K H x t) (hk : kitB t c = some b) (hk' : kitB t c' = some b') :
    Ev (tCB (rIsiT K) (tCons te (tCons (tTup (tCons (tC (.ty c)) (tCons (tC (.ty c')) tNil))) tNil))) σ H (.bl (b || b')) := fun H1 e Q q =>
  h H1 e _ fun H2 e2 => ⟨sz_of (by simp), fun p hp => ⟨x, p, [.ty c, .ty c'], .type t, [.type c, .type c'], b || b', rfl, upd_same, .cons (.ty c) (.cons (.ty c') .nil), ht _ ((e.trans e2).trans (Ex.new hp)), by
    refine kitAny_cons (kit_ty hk) (fun hb => ?_) (fun hb => by rw [hb] <;> rfl)
    rw [hb, Bool.false_or]
    exact kitAny_cons (kit_ty hk') (fun hb' => by rw [hb']; exact kitAny_nil) (fun hb' => hb'), q _ (e2.trans (Ex.new hp))⟩⟩
theorem rv_ixQ {K : PySem.W.Frag} {H : Hp} {p : Addr} {xs : List V} {i : Int} {v : V} (h : SqL K H p xs ∨ SqT K H p xs) (ha : atI xs i = some v) : RV (rIx K) (.ref p) (.int i) H v := fun H1 e Q q => by
  rcases h with h | h
  · exact .inl (rv_ixL h ha H1 e Q q)
  · exact .inr (.inl (rv_ixT h ha H1 e Q q))
theorem ev_lenQ {K : PySem.W.Frag} {σ : L2.St} {H : Hp} {ta : TE} {p : Addr} {xs : List V} (ha : Ev ta σ H (.ref p)) (h : SqL K H p xs ∨ SqT K H p xs) : Ev (tCB (rLenS K) (tCons ta tNil)) σ H (.int (xs.length : Int)) := fun H1 e Q q =>
  ha H1 e _ fun H2 e2 => ⟨p, xs, rfl, h.imp (fun h => ex_l (e.trans e2) h) (fun h => ex_t (e.trans e2) h), q H2 e2⟩
theorem given_true (n : Nat) : given n (fun _ => true) (fun _ => V.bl true) = (List.replicate n true).map V.bl := by
  induction n with
  | zero => rfl
  | succ n ih =>
    rw [given_yes rfl, ih, List.replicate_succ', List.map_append] <;> rfl
theorem ev_allT {K : PySem.W.Frag} {σ : L2.St} {H : Hp} {te : TE} {n : Nat} (h : EvL te σ H (given n (fun _ => true) (fun _ => V.bl true))) : Ev (tCB (rAll K) (tCons te tNil)) σ H (.bl true) := fun H1 e Q q =>
  h H1 e _ fun p H2 _ e2 h2 => ⟨p, List.replicate n true, rfl, sq_of (by rw [h2, given_true]), by
    have e3 : (List.replicate n true).all id = true := by simp
    rw [e3]
    exact q H2 e2⟩
theorem kb_bool_bool : kitB "bool" "bool" = some true := by decide +kernel
theorem kb_bool_int : kitB "bool" "int" = some true := by decide +kernel
theorem kb_bool_str : kitB "bool" "str" = some false := by decide +kernel
theorem kb_bool_list : kitB "bool" "list" = some false := by decide +kernel
theorem kb_bool_tuple : kitB "bool" "tuple" = some false := by decide +kernel
theorem kb_int_bool : kitB "int" "bool" = some false := by decide +kernel
theorem kb_int_int : kitB "int" "int" = some true := by decide +kernel
theorem kb_int_str : kitB "int" "str" = some false := by decide +kernel
theorem kb_int_list : kitB "int" "list" = some false := by decide +kernel
theorem kb_int_tuple : kitB "int" "tuple" = some false := by decide +kernel
theorem kb_str_bool : kitB "str" "bool" = some false := by decide +kernel
theorem kb_str_int : kitB "str" "int" = some false := by decide +kernel
theorem kb_str_str : kitB "str" "str" = some true := by decide +kernel
theorem kb_str_list : kitB "str" "list" = some false := by decide +kernel
theorem kb_str_tuple : kitB "str" "tuple" = some false := by decide +kernel
theorem kb_list_bool : kitB "list" "bool" = some false := by decide +kernel
theorem kb_list_int : kitB "list" "int" = some false := by decide +kernel
theorem kb_list_str : kitB "list" "str" = some false := by decide +kernel
theorem kb_list_list : kitB "list" "list" = some true := by decide +kernel
theorem kb_list_tuple : kitB "list" "tuple" = some false := by decide +kernel
theorem kb_tuple_bool : kitB "tuple" "bool" = some false := by decide +kernel
theorem kb_tuple_int : kitB "tuple" "int" = some false := by decide +kernel
theorem kb_tuple_str : kitB "tuple" "str" = some false := by decide +kernel
theorem kb_tuple_list : kitB "tuple" "list" = some false := by decide +kernel
theorem kb_tuple_tuple : kitB "tuple" "tuple" = some true := by decide +kernel
section
variable {P : Program} {w : World} {K : PySem.W.Frag} {mg : Str → Option Value} {base : Heap} {f : Addr} {fd : FuncData}
abbrev sSame : Stmt := top 21
theorem scSame : FnScope ["_law_got", "_law_due", "_law_k"] ["_law_got", "_law_due"] (defScope sSame) := ⟨rfl, rfl, rfl, by decide +kernel, rfl, by decide +kernel, by decide +kernel⟩
theorem ok_same (F : FnP K "_law_same" sSame f fd) (m : mg "_law_same" = some (.ref f)) (g_len : mg "len" = none) (g_isinstance : mg "isinstance" = none) (g_bool : mg "bool" = none) (g_int : mg "int" = none) (g_str : mg "str" = none) (g_list : mg "list" = none) (g_tuple : mg "tuple" = none)
    (g_all : mg "all" = none) (g_range : mg "range" = none) : ∀ d, FnOk P w K mg base CX0 d f fd ["_law_got", "_law_due"] (spSame K d)
  | 0 => ⟨fun _ _ _ _ h => by
      obtain ⟨u, v, _, h, _⟩ := h
      exact h.elim, fun _ _ _ _ _ _ _ _ _ _ _ _ _ h => by
      obtain ⟨u, v, _, h, _⟩ := h
      exact h.elim⟩
  | d + 1 => by
    have O__law_same : Own P w K mg base d "_law_same" ["_law_got", "_law_due"] (spSame K d) := own_of F m (ok_same F m g_len g_isinstance g_bool g_int g_str g_list g_tuple g_all g_range d) fun _ _ _ _ _ _ us hl => match us, hl with | [_, _], _ => rfl
    have nd := scSame.nd
    refine F.ok scSame (fun vs H Q E h => ?_) (fun cdv A outer s H vs Q E hr h => ⟨_, PSs.nox (pss_cons (ps_if (PW.pt (pw_or (pt_cmpR op_isN (pv 1) pe_non (nomark _)) (pw_or1 (pt_cmpR op_isN (pv 0) pe_non (nomark _))))) (pss_one (ps_ret (pe_and (pe_cmpR op_isN (pv 1) pe_non (nomark _)) (pe_one (pe_cmpR op_isN (pv 0) pe_non (nomark _)))))) pss_nil)
  (pss_cons (ps_if (PW.pt (pw_or (pt_val (pe_callB (r := rIsi K) call_isi (by rfl) g_isinstance (by decide +kernel) (pa_cons (pv 1) (pa_cons (pe_bltn (v := .ty "bool") (by rfl) g_bool (by decide +kernel) rfl) pa_nil)))) (pw_or1 (pt_val (pe_callB (r := rIsi K) call_isi (by rfl) g_isinstance (by decide +kernel) (pa_cons (pv 0) (pa_cons (pe_bltn (v := .ty "bool") (by rfl) g_bool (by decide +kernel) rfl) pa_nil))))))) (pss_one (ps_ret (pe_and (pe_callB (r := rIsi K) call_isi (by rfl) g_isinstance (by decide +kernel) (pa_cons (pv 1) (pa_cons (pe_bltn (v := .ty "bool") (by rfl) g_bool (by decide +kernel) rfl) pa_nil))) (pe_and (pe_callB (r := rIsi K) call_isi (by rfl) g_isinstance (by decide +kernel) (pa_cons (pv 0) (pa_cons (pe_bltn (v := .ty "bool") (by rfl) g_bool (by decide +kernel) rfl) pa_nil))) (pe_one (pe_cmpR op_eq (pv 0) (pv 1) (nomark _))))))) pss_nil)
  (pss_cons (ps_if (pt_val (pe_callB (r := rIsiT K) call_isiT (by rfl) g_isinstance (by decide +kernel) (pa_cons (pv 1) (pa_cons (pe_tup (pa_cons (pe_bltn (v := .ty "int") (by rfl) g_int (by decide +kernel) rfl) (pa_cons (pe_bltn (v := .ty "str") (by rfl) g_str (by decide +kernel) rfl) pa_nil))) pa_nil)))) (pss_one (ps_ret (pe_and (pe_cmpR op_eq (pe_callB (r := rIsi K) call_isi (by rfl) g_isinstance (by decide +kernel) (pa_cons (pv 0) (pa_cons (pe_bltn (v := .ty "int") (by rfl) g_int (by decide +kernel) rfl) pa_nil))) (pe_callB (r := rIsi K) call_isi (by rfl) g_isinstance (by decide +kernel) (pa_cons (pv 1) (pa_cons (pe_bltn (v := .ty "int") (by rfl) g_int (by decide +kernel) rfl) pa_nil))) (nomark _)) (pe_one (pe_cmpR op_eq (pv 0) (pv 1) (nomark _)))))) pss_nil)
  (pss_cons (ps_if (PW.pt (pw_or (pt_cmpR op_ne (pe_callB (r := rIsi K) call_isi (by rfl) g_isinstance (by decide +kernel) (pa_cons (pv 1) (pa_cons (pe_bltn (v := .ty "list") (by rfl) g_list (by decide +kernel) rfl) pa_nil))) (pe_callB (r := rIsi K) call_isi (by rfl) g_isinstance (by decide +kernel) (pa_cons (pv 0) (pa_cons (pe_bltn (v := .ty "list") (by rfl) g_list (by decide +kernel) rfl) pa_nil))) (nomark _)) (pw_or1 (pt_cmpR op_ne (pe_callB (r := rIsi K) call_isi (by rfl) g_isinstance (by decide +kernel) (pa_cons (pv 1) (pa_cons (pe_bltn (v := .ty "tuple") (by rfl) g_tuple (by decide +kernel) rfl) pa_nil))) (pe_callB (r := rIsi K) call_isi (by rfl) g_isinstance (by decide +kernel) (pa_cons (pv 0) (pa_cons (pe_bltn (v := .ty "tuple") (by rfl) g_tuple (by decide +kernel) rfl) pa_nil))) (nomark _))))) (pss_one (ps_ret pe_bl)) pss_nil)
  (pss_one (ps_ret (pe_and (pe_cmpR op_eq (pe_callB (r := Evl.rLenS K) call_len_seq (by rfl) g_len PySem.boot_len (pa_cons (pv 0) pa_nil)) (pe_callB (r := Evl.rLenS K) call_len_seq (by rfl) g_len PySem.boot_len (pa_cons (pv 1) pa_nil)) (nomark _)) (pe_one (pe_callB (r := rAll K) (cr_all rfl) (by rfl) g_all (by decide +kernel) (pa_cons (pe_lc (own := [("_law_k", 2)]) rfl nd (pi_range1 (by rfl) g_range (pa_cons (pe_callB (r := Evl.rLenS K) call_len_seq (by rfl) g_len PySem.boot_len (pa_cons (pv 1) pa_nil)) pa_nil)) (blkOk_by (N := ["_law_got", "_law_due", "_law_k"]) (sc := defScope (Hs.top 21)) (by decide +kernel)) (fun _ _ _ _ _ => (pg_name (i := 2) nd rfl (Or.inl rfl))) (fun _ _ _ _ _ => pts_nil) (fun _ _ _ _ _ => (Hs.pe_own O__law_same hr (by first | decide | omega) (by rfl) (pa_cons (pe_ix (r := rIx K) ix_seq (pv 0) (pv 2) (fun _ _ => rfl)) (pa_cons (pe_ix (r := rIx K) ix_seq (pv 1) (pv 2) (fun _ _ => rfl)) pa_nil))))) pa_nil)))))))))), ?_⟩)
    · obtain ⟨u, v, rfl, _⟩ := h
      rfl
    · obtain ⟨u, v, rfl, h, k⟩ := h
      rcases h with ⟨rfl, hf⟩ | ⟨a, b, xs, ys, rfl, rfl, hq, hlen, hz, hi⟩
      · cases u with
        | non =>
          refine q_when (et_or (et_test (ev_op (ev_var rfl) ev_c (rv_val fun H1 _ Q q => ⟨rfl, q⟩))) (fun _ => et_test (ev_op (ev_var rfl) ev_c (rv_val fun H1 _ Q q => ⟨rfl, q⟩)))) (fun ht H1 e1 => ?_) (fun ht => by simp at ht)
          exact s_ret (ev_is (ev_andV (ev_op (ev_var rfl) ev_c (rv_val fun H1 _ Q q => ⟨rfl, q⟩)) (fun _ => ev_op (ev_var rfl) ev_c (rv_val fun H1 _ Q q => ⟨rfl, q⟩))) (by simp)) fun H2 e2 => k _ (e1.trans e2)
        | bl y =>
          refine q_when (b := false) (et_is (et_or (et_test (ev_op (ev_var rfl) ev_c (rv_val fun H1 _ Q q => ⟨rfl, q⟩))) (fun _ => et_test (ev_op (ev_var rfl) ev_c (rv_val fun H1 _ Q q => ⟨rfl, q⟩)))) (by simp)) (fun ht => Bool.noConfusion ht) (fun _ H1 e1 => ?_)
          refine q_when (b := true) (et_is (et_or (et_B (ev_isi (ev_var rfl) ty_bl kb_bool_bool)) (fun _ => et_B (ev_isi (ev_var rfl) ty_bl kb_bool_bool))) (by simp)) (fun _ H2 e2 => ?_) (fun ht => Bool.noConfusion ht)
          exact s_ret (ev_is (ev_andV (ev_isi (ev_var rfl) ty_bl kb_bool_bool) (fun _ => ev_andV (ev_isi (ev_var rfl) ty_bl kb_bool_bool) (fun _ => ev_op (ev_var rfl) (ev_var rfl) (rv_eq rfl)))) (by simp)) fun H3 e3 => k _ ((e1.trans e2).trans e3)
        | int i =>
          refine q_when (b := false) (et_is (et_or (et_test (ev_op (ev_var rfl) ev_c (rv_val fun H1 _ Q q => ⟨rfl, q⟩))) (fun _ => et_test (ev_op (ev_var rfl) ev_c (rv_val fun H1 _ Q q => ⟨rfl, q⟩)))) (by simp)) (fun ht => Bool.noConfusion ht) (fun _ H1 e1 => ?_)
          refine q_when (b := false) (et_is (et_or (et_B (ev_isi (ev_var rfl) ty_int kb_int_bool)) (fun _ => et_B (ev_isi (ev_var rfl) ty_int kb_int_bool))) (by simp)) (fun ht => Bool.noConfusion ht) (fun _ H2 e2 => ?_)
          refine q_when (b := true) (et_is (et_B (ev_isi2 (ev_var rfl) ty_int kb_int_int kb_int_str)) (by simp)) (fun _ H3 e3 => ?_) (fun ht => Bool.noConfusion ht)
          exact s_ret (ev_is (ev_andV (ev_op (ev_isi (ev_var rfl) ty_int kb_int_int) (ev_isi (ev_var rfl) ty_int kb_int_int) (rv_eq rfl)) (fun _ => ev_op (ev_var rfl) (ev_var rfl) (rv_eq rfl))) (by simp)) fun H4 e4 => k _ (((e1.trans e2).trans e3).trans e4)
        | str x =>
          refine q_when (b := false) (et_is (et_or (et_test (ev_op (ev_var rfl) ev_c (rv_val fun H1 _ Q q => ⟨rfl, q⟩))) (fun _ => et_test (ev_op (ev_var rfl) ev_c (rv_val fun H1 _ Q q => ⟨rfl, q⟩)))) (by simp)) (fun ht => Bool.noConfusion ht) (fun _ H1 e1 => ?_)
          refine q_when (b := false) (et_is (et_or (et_B (ev_isi (ev_var rfl) ty_str kb_str_bool)) (fun _ => et_B (ev_isi (ev_var rfl) ty_str kb_str_bool))) (by simp)) (fun ht => Bool.noConfusion ht) (fun _ H2 e2 => ?_)
          refine q_when (b := true) (et_is (et_B (ev_isi2 (ev_var rfl) ty_str kb_str_int kb_str_str)) (by simp)) (fun _ H3 e3 => ?_) (fun ht => Bool.noConfusion ht)
          exact s_ret (ev_is (ev_andV (ev_op (ev_isi (ev_var rfl) ty_str kb_str_int) (ev_isi (ev_var rfl) ty_str kb_str_int) (rv_eq rfl)) (fun _ => ev_op (ev_var rfl) (ev_var rfl) (rv_eq rfl))) (by simp)) fun H4 e4 => k _ (((e1.trans e2).trans e3).trans e4)
        | _ => cases hf
      · have ta : ∀ {H' : Hp}, Ex H H' → (Ty K H' (.ref a) "list" ∧ Ty K H' (.ref b) "list") ∨ (Ty K H' (.ref a) "tuple" ∧ Ty K H' (.ref b) "tuple") := fun {H'} e => by
          rcases hq with ⟨p, q⟩ | ⟨p, q⟩
          · exact .inl ⟨ty_l (ex_l e p), ty_l (ex_l e q)⟩
          · exact .inr ⟨ty_t (ex_t e p), ty_t (ex_t e q)⟩
        have qa : ∀ {H' : Hp}, Ex H H' → SqL K H' a xs ∨ SqT K H' a xs := fun {H'} e => hq.imp (fun h => ex_l e h.1) (fun h => ex_t e h.1)
        have qb : ∀ {H' : Hp}, Ex H H' → SqL K H' b ys ∨ SqT K H' b ys := fun {H'} e => hq.imp (fun h => ex_l e h.2) (fun h => ex_t e h.2)
        refine q_when (b := false) (et_is (et_or (et_test (ev_op (ev_var rfl) ev_c (rv_val fun H1 _ Q q => ⟨rfl, q⟩))) (fun _ => et_test (ev_op (ev_var rfl) ev_c (rv_val fun H1 _ Q q => ⟨rfl, q⟩)))) (by simp)) (fun ht => Bool.noConfusion ht) (fun _ H1 e1 => ?_)
        have t2 : ∀ {σ : L2.St} {H' : Hp}, σ[0]? = some (some (.ref a)) → σ[1]? = some (some (.ref b)) → Ex H H' → Ev (tCB (rIsi K) (tCons (tVar 1) (tCons (tC (.ty "bool")) tNil))) σ H' (.bl false) ∧ Ev (tCB (rIsi K) (tCons (tVar 0) (tCons (tC (.ty "bool")) tNil))) σ H' (.bl false) ∧
            Ev (tCB (rIsiT K) (tCons (tVar 1) (tCons (tTup (tCons (tC (.ty "int")) (tCons (tC (.ty "str")) tNil))) tNil))) σ H' (.bl false) ∧
            ∃ b1 b2, Ev (tCB (rIsi K) (tCons (tVar 1) (tCons (tC (.ty "list")) tNil))) σ H' (.bl b1) ∧ Ev (tCB (rIsi K) (tCons (tVar 0) (tCons (tC (.ty "list")) tNil))) σ H' (.bl b1) ∧ Ev (tCB (rIsi K) (tCons (tVar 1) (tCons (tC (.ty "tuple")) tNil))) σ H' (.bl b2) ∧ Ev (tCB (rIsi K) (tCons (tVar 0) (tCons (tC (.ty "tuple")) tNil))) σ H' (.bl b2) := fun {σ H'} h0 h1 e => by
          rcases ta e with ⟨p, q⟩ | ⟨p, q⟩
          · exact ⟨ev_isi (ev_var h1) q kb_list_bool, ev_isi (ev_var h0) p kb_list_bool, ev_isi2 (ev_var h1) q kb_list_int kb_list_str, true, false, ev_isi (ev_var h1) q kb_list_list, ev_isi (ev_var h0) p kb_list_list, ev_isi (ev_var h1) q kb_list_tuple, ev_isi (ev_var h0) p kb_list_tuple⟩
          · exact ⟨ev_isi (ev_var h1) q kb_tuple_bool, ev_isi (ev_var h0) p kb_tuple_bool, ev_isi2 (ev_var h1) q kb_tuple_int kb_tuple_str, false, true, ev_isi (ev_var h1) q kb_tuple_list, ev_isi (ev_var h0) p kb_tuple_list, ev_isi (ev_var h1) q kb_tuple_tuple, ev_isi (ev_var h0) p kb_tuple_tuple⟩
        obtain ⟨i1, i2, _⟩ := t2 (σ := [some (.ref a), some (.ref b), none]) rfl rfl e1
        refine q_when (b := false) (et_is (et_or (et_B i1) (fun _ => et_B i2)) (by simp)) (fun ht => Bool.noConfusion ht) (fun _ H2 e2 => ?_)
        obtain ⟨_, _, i3, _⟩ := t2 (σ := [some (.ref a), some (.ref b), none]) rfl rfl (e1.trans e2)
        refine q_when (b := false) (et_B i3) (fun ht => Bool.noConfusion ht) (fun _ H3 e3 => ?_)
        have e03 := (e1.trans e2).trans e3
        obtain ⟨_, _, _, b1, b2, j1, j2, j3, j4⟩ := t2 (σ := [some (.ref a), some (.ref b), none]) rfl rfl e03
        refine q_when (b := false) (et_is (et_or (et_test (ev_op j1 j2 (rv_ne rfl))) (fun _ => et_test (ev_op j3 j4 (rv_ne rfl)))) (by simp)) (fun ht => Bool.noConfusion ht) (fun _ H4 e4 => ?_)
        have e04 := e03.trans e4
        refine s_ret (ev_is (ev_andV (ev_op (ev_lenQ (ev_var rfl) (qa e04)) (ev_lenQ (ev_var rfl) (qb e04)) (rv_eq rfl)) (fun _ => ev_allT (n := ys.length) ?_)) (by simp [hlen])) fun H5 e5 => k _ (e04.trans e5)
        refine el_lcR1 (n := (ys.length : Int)) (fun _ => true) (fun _ => V.bl true) (ea_cons (ev_lenQ (ev_var rfl) (qb e04)) ea_nil) (by omega) (fun x => rfl) (fun i H6 e6 hi6 H7 e7 Q' q' => q' H7 (Ex.refl H7)) (fun i H6 e6 hi6 _ => ?_)
        have hiy : i < ys.length := by omega
        have hix : i < xs.length := by omega
        have gx : xs[i]? = some xs[i] := List.getElem?_eq_getElem hix
        have gy : ys[i]? = some ys[i] := List.getElem?_eq_getElem hiy
        have e06 := e04.trans e6
        exact ev_call (ea_cons (ev_op (ev_var rfl) (ev_var rfl) (rv_ixQ (qa e06) (atI_nat gx))) (ea_cons (ev_op (ev_var rfl) (ev_var rfl) (rv_ixQ (qb e06) (atI_nat gy))) ea_nil)) fun H7 e7 Q' q' E' => ⟨_, _, rfl, (hi i _ _ gx gy).ext (e06.trans e7), q'⟩
end
end Hs
namespace Hs
open PySem PySem.Spec PyProof.Rows L2 Evl
/-! ### the bag and what stands beside it -/
theorem bag_ne {H : Hp} {b l p : Addr} {ns : List Int} {n : Nat} (B : BagAt H b l ns n) (hp : H p = none) : p ≠ b := fun z => by
  obtain ⟨i, y, s, c, h, _⟩ := B.ex
  rw [← z, hp] at h
  cases h
theorem bag_lst {H : Hp} {b l : Addr} {ns : List Int} {n : Nat} (B : BagAt H b l ns n) : ∃ xs, H b = some (.lst xs) := by
  obtain ⟨⟨i, z, s, c, h1, _⟩, _⟩ := B
  exact ⟨_, h1⟩
theorem bag_upd {H : Hp} {b l a : Addr} {ns : List Int} {n : Nat} {o : HO} (B : BagAt H b l ns n) (h1 : b ≠ a) (h2 : l ≠ a) : BagAt (upd H a o) b l ns n := by
  obtain ⟨⟨i, z, s, c, q1, q2, q3, q4, q5⟩, q6, q7⟩ := B
  exact ⟨⟨i, z, s, c, by rw [upd_ne h1]; exact q1, q2, q3, q4, q5⟩, by rw [upd_ne h2]; exact q6, q7⟩
theorem But.fresh {H H' : Hp} {b l p : Addr} {ns : List Int} {n : Nat} (k : But H H' b) (B : BagAt H' b l ns n) (hp : H' p = none) : H p = none := by
  cases h : H p with
  | none => rfl
  | some o =>
    have := k p o h (bag_ne B hp)
    rw [hp] at this
    cases this
theorem But.tup {H H' : Hp} {b l p : Addr} {ns : List Int} {n : Nat} {xs : List V} (k : But H H' b) (B : BagAt H b l ns n) (h : H p = some (.tup xs)) : H' p = some (.tup xs) := by
  obtain ⟨ys, hb⟩ := bag_lst B
  refine k _ _ h fun z => ?_
  rw [z, hb] at h
  cases h
end Hs
namespace Hs
open PySem PySem.Spec PyProof.Rows L2 Evl
/-! ### one of a list, a block that is drawn -/
def spOne (K : PySem.W.Frag) : Sp := fun vs H Q _ => ∃ (b l a : Addr) (ns : List Int) (n : Nat) (xs : List V), vs = [.ref b, .ref a] ∧ BagAt H b l ns n ∧ n < 900000 ∧ H a = some (.lst xs) ∧ a ≠ b ∧ 0 < xs.length ∧ xs.length ≤ 1000 ∧
  ∀ (v : V) (H' : Hp), v ∈ xs → BagAt H' b l ns (n + 1) → But H H' b → Q v H'
section
variable {P : Program} {w : World} {K : PySem.W.Frag} {mg : Str → Option Value} {base : Heap} {f : Addr} {fd : FuncData}
abbrev sOne : Stmt := top 20
theorem scOne : FnScope ["_law_bag_here", "_law_some"] ["_law_bag_here", "_law_some"] (defScope sOne) := ⟨rfl, rfl, rfl, by decide +kernel, rfl, by decide +kernel, by decide +kernel⟩
theorem ok_one (F : FnP K "_law_one" sOne f fd) (O__law_pull : Own P w K mg base 1 "_law_pull" ["_law_bag_here", "_law_many"] spPull) (g_len : mg "len" = none) : FnOk P w K mg base CX0 2 f fd ["_law_bag_here", "_law_some"] (spOne K) := by
  have nd := scOne.nd
  refine F.ok scOne (fun vs H Q E h => ?_) (fun cdv A outer s H vs Q E hr h => ⟨_, PSs.nox (pss_one (ps_ret (pe_ix (r := rIxL K) ix_list (pv 1) (Hs.pe_own O__law_pull hr (by first | decide | omega) (by rfl) (pa_cons (pv 0) (pa_cons (pe_callB (r := Evl.rLenS K) call_len_seq (by rfl) g_len PySem.boot_len (pa_cons (pv 1) pa_nil)) pa_nil))) (fun _ _ => rfl)))), ?_⟩)
  · obtain ⟨b, l, a, ns, n, xs, rfl, _⟩ := h
    rfl
  · obtain ⟨b, l, a, ns, n, xs, rfl, B, hn, ha, hne, h0, h1, k⟩ := h
    refine ⟨_, rfl, _, rfl, _, rfl, a, xs, rfl, .inl (sq_of ha), b, l, ns, n, _, rfl, B, by omega, by omega, by omega, fun v H1 v0 v1 B1 b1 => ?_⟩
    have hi : v.toNat < xs.length := by omega
    have hat : atI xs v = some xs[v.toNat] := by
      have e : ((v.toNat : Nat) : Int) = v := by omega
      have q := atI_nat (xs := xs) (j := v.toNat) (List.getElem?_eq_getElem hi)
      rw [e] at q
      exact q
    exact ⟨a, xs, v, _, rfl, rfl, sq_of (b1 _ _ ha hne), hat, k _ H1 (List.getElem_mem hi) B1 b1⟩
end
end Hs
namespace Hs
open PySem PySem.Spec PyProof.Rows L2 Evl
/-! ### [e for k in range(n)], each turn draws -/
theorem lc_drawR {te : TE} {ta : TA} {σ : L2.St} {H : Hp} {Q : VK} {b l : Addr} {ns : List Int} {N c M j : Nat} {vs : List Nat} (C : Nat → Prop) (G : List V → Hp → Prop) (gk : ∀ xs H1 H2, Kp H1 H2 → G xs H1 → G xs H2) (hM : M ≤ 1000)
    (hw : ∀ v, wipe ((wipe σ vs).set j (some v)) vs = wipe σ vs) (hta : ∀ R : List V → Hp → Prop, (∀ (n : Nat) H1, n ≤ M → C n → BagAt H1 b l ns N → But H H1 b → R [.int (n : Int)] H1) → ta σ H R) (g0 : ∀ H', G [] H')
    (hs : ∀ (i : Nat) (xs : List V) (H' : Hp) (Q' : VK), i < M → But H H' b → BagAt H' b l ns (N + i * c) → (∀ v H2, BagAt H2 b l ns (N + (i + 1) * c) → But H' H2 b → (∀ H3, Kp H2 H3 → G xs H3 → G (xs ++ [v]) H3) → Q' v H2) → te ((wipe σ vs).set j (some (.int (0 + (i : Nat))))) H' Q')
    (k : ∀ (D : Addr) (xs : List V) (H' : Hp), H D = none → H' D = some (.lst xs) → xs.length ≤ M → C xs.length → G xs H' → BagAt H' b l ns (N + xs.length * c) → But H H' b → Q (.ref D) H') :
    tLc (iRng1 ta) (gName j) tYes te vs σ H Q := by
  refine hta _ fun n H1 hn hC B k1 => ⟨(n : Int), rfl, by omega, by omega, fun Dl hD => ?_⟩
  have nDb := bag_ne B hD
  have nDl : Dl ≠ l := Ne.symm (ne_of_none B.ls hD)
  have hD0 : H Dl = none := But.fresh k1 B hD
  have en : (n : Int).toNat = n := Int.toNat_natCast n
  refine lc_range (lo := 0) (n := (n : Int).toNat) (fun i H' => ∃ xs, H' Dl = some (.lst xs) ∧ xs.length = i ∧ G xs H' ∧ BagAt H' b l ns (N + i * c) ∧ But H H' b) ⟨[], upd_same, rfl, g0 _, ?_, k1.ex (Ex.new hD)⟩ (fun i H' hi p => ⟨hw _, ?_⟩) (fun H' p => ?_)
  · rw [Nat.zero_mul]
    exact B.ext (Ex.new hD) (Nat.le_refl _)
  · obtain ⟨xs, hDl, hlen, hG, Bi, bi⟩ := p
    rw [en] at hi
    refine hs i xs H' _ (by omega) bi Bi fun v H2 B2 b2 g2 => ?_
    have hDl2 := b2 _ _ hDl nDb
    refine ⟨_, hDl2, sz_lt (by omega), xs ++ [v], upd_same, by rw [List.length_append, hlen] <;> rfl, ?_, bag_upd B2 (Ne.symm nDb) (Ne.symm nDl), fun a o ha hb => ?_⟩
    · have kp2 : Kp H2 (upd H2 Dl (.lst (xs ++ [v]))) := Kp.upd hDl2
      obtain ⟨ys, hbl⟩ := bag_lst Bi
      exact g2 _ kp2 (gk _ _ _ kp2 (gk _ _ _ (Kp.but hbl b2) hG))
    · rw [upd_ne (ne_of_none ha hD0)]
      exact b2 _ _ (bi _ _ ha hb) hb
  · obtain ⟨xs, hDl, hlen, hG, Bi, bi⟩ := p
    rw [en] at hlen Bi
    rw [← hlen] at Bi
    exact k Dl xs H' hD0 hDl (by omega) (by rw [hlen]; exact hC) hG Bi bi
end Hs
namespace Hs
open PySem PySem.Spec PyProof.Rows L2 Evl
/-! ### a number, a word, drawn -/
def spWideN : Sp := fun vs H Q _ => ∃ (b l : Addr) (ns : List Int) (n : Nat), vs = [.ref b] ∧ BagAt H b l ns n ∧ n < 800000 ∧ ∀ (z : Int) (H' : Hp), z.natAbs < 10 ^ 9 → BagAt H' b l ns (n + 4) → But H H' b → Q (.int z) H'
def wordsL : List Str := ["lamp", "post", "pane", "x", "Lamp", "9", "/", "many", "~!"]
def spWord : Sp := fun vs H Q _ => ∃ (b l : Addr) (ns : List Int) (n : Nat), vs = [.ref b] ∧ BagAt H b l ns n ∧ n < 800000 ∧ ∀ (x : Str) (H' : Hp), x ∈ wordsL → BagAt H' b l ns (n + 1) → But H H' b → Q (.str x) H'
theorem atI_get {xs : List V} {v : Int} (h0 : 0 ≤ v) (h : v < (xs.length : Int)) : ∃ x, atI xs v = some x ∧ x ∈ xs := by
  have hi : v.toNat < xs.length := by omega
  have q := atI_nat (xs := xs) (j := v.toNat) (List.getElem?_eq_getElem hi)
  rw [show ((v.toNat : Nat) : Int) = v by omega] at q
  exact ⟨_, q, List.getElem_mem hi⟩
section
variable {P : Program} {w : World} {K : PySem.W.Frag} {mg : Str → Option Value} {base : Heap} {f : Addr} {fd : FuncData}
abbrev sWideN : Stmt := top 28
theorem scWideN : FnScope ["_law_bag_here", "_law_number"] ["_law_bag_here"] (defScope sWideN) := ⟨rfl, rfl, rfl, by decide +kernel, rfl, by decide +kernel, by decide +kernel⟩
theorem ok_wideN (F : FnP K "_law_wide_number" sWideN f fd) (O__law_pull : Own P w K mg base 1 "_law_pull" ["_law_bag_here", "_law_many"] spPull) : FnOk P w K mg base CX0 2 f fd ["_law_bag_here"] spWideN := by
  have nd := scWideN.nd
  refine F.ok scWideN (fun vs H Q E h => ?_) (fun cdv A outer s H vs Q E hr h => ⟨_, PSs.nox (pss_cons (ps_set (i := 1) nd rfl (.inl rfl) (pe_ix (r := rIxL K) ix_list (pe_lst (pa_cons (Hs.pe_own O__law_pull hr (by first | decide | omega) (by rfl) (pa_cons (pv 0) (pa_cons pe_int pa_nil))) (pa_cons (Hs.pe_own O__law_pull hr (by first | decide | omega) (by rfl) (pa_cons (pv 0) (pa_cons (pe_op op_pow pe_int pe_int) pa_nil))) (pa_cons (pe_op op_sub (pe_op op_pow pe_int pe_int) pe_int) (pa_cons pe_int pa_nil))))) (Hs.pe_own O__law_pull hr (by first | decide | omega) (by rfl) (pa_cons (pv 0) (pa_cons pe_int pa_nil))) (fun _ _ => rfl)))
  (pss_one (ps_ret (pe_ix (r := rIxL K) ix_list (pe_lst (pa_cons (pv 1) (pa_cons (pe_op op_sub pe_int (pv 1)) pa_nil))) (Hs.pe_own O__law_pull hr (by first | decide | omega) (by rfl) (pa_cons (pv 0) (pa_cons pe_int pa_nil))) (fun _ _ => rfl))))), ?_⟩)
  · obtain ⟨b, l, ns, n, rfl, _⟩ := h
    rfl
  · obtain ⟨b, l, ns, n, rfl, B, hn, k⟩ := h
    refine ⟨_, rfl, b, l, ns, n, 10, rfl, B, by omega, by omega, by omega, fun v1 H1 p1 q1 B1 k1 => ?_⟩
    refine ⟨_, rfl, 10, 9, rfl, rfl, ⟨by decide, by decide, by decide⟩, b, l, ns, n + 1, _, rfl, B1, by omega, by decide, by decide, fun v2 H2 p2 q2 B2 k2 => ?_⟩
    refine ⟨10, 9, rfl, rfl, ⟨by decide, by decide, by decide⟩, _, 1, rfl, rfl, sz_of (by simp), fun p hp => ⟨_, rfl, b, l, ns, n + 1 + 1, 4, rfl, B2.ext (Ex.new hp) (Nat.le_refl _), by omega, by decide, by decide, fun v3 H3 p3 q3 B3 k3 => ?_⟩⟩
    have hq2 : v2 < 10 ^ 9 := q2
    have hv1 : ∀ z : Int, V.int z ∈ [V.int v1, .int v2, .int ((10 : Int) ^ (9 : Int).toNat - 1), .int 0] → z.natAbs < 10 ^ 9 := fun z hz => by
      simp only [List.mem_cons, V.int.injEq, List.not_mem_nil, or_false] at hz
      have h9 : (10 : Int) ^ (9 : Int).toNat = 1000000000 := by decide
      rw [h9] at hz
      rcases hz with rfl | rfl | rfl | rfl
      · omega
      · omega
      · decide
      · decide
    have hin : ∀ x : V, x ∈ [V.int v1, .int v2, .int ((10 : Int) ^ (9 : Int).toNat - 1), .int 0] → ∃ z, x = .int z := fun x hx => by
      simp only [List.mem_cons, List.not_mem_nil, or_false] at hx
      rcases hx with rfl | rfl | rfl | rfl <;> exact ⟨_, rfl⟩
    obtain ⟨x, hat, hx⟩ := atI_get (xs := [V.int v1, .int v2, .int ((10 : Int) ^ (9 : Int).toNat - 1), .int 0]) p3 q3
    obtain ⟨z, rfl⟩ := hin x hx
    have hz := hv1 z hx
    have hp3 := k3 _ _ upd_same (bag_ne B2 hp)
    refine ⟨p, _, v3, _, rfl, rfl, sq_of hp3, hat, ?_⟩
    refine ⟨_, rfl, _, rfl, 0, z, rfl, rfl, sz_of (by simp), fun p' hp' => ⟨_, rfl, b, l, ns, n + 1 + 1 + 1, 2, rfl, B3.ext (Ex.new hp') (Nat.le_refl _), by omega, by decide, by decide, fun v4 H4 p4 q4 B4 k4 => ?_⟩⟩
    have hp4 := k4 _ _ upd_same (bag_ne B3 hp')
    obtain ⟨x, hat2, hx2⟩ := atI_get (xs := [V.int z, .int (0 - z)]) p4 q4
    have kk : But H H4 b := (k1.trans (k2.ex (Ex.new hp))).trans ((k3.ex (Ex.new hp')).trans k4)
    simp only [List.mem_cons, List.not_mem_nil, or_false] at hx2
    rcases hx2 with rfl | rfl
    · exact ⟨p', _, v4, _, rfl, rfl, sq_of hp4, hat2, k _ H4 hz B4 kk⟩
    · exact ⟨p', _, v4, _, rfl, rfl, sq_of hp4, hat2, k _ H4 (by omega) B4 kk⟩
abbrev sWordL : Stmt := top 29
theorem scWordL : FnScope ["_law_bag_here"] ["_law_bag_here"] (defScope sWordL) := ⟨rfl, rfl, rfl, by decide +kernel, rfl, by decide +kernel, by decide +kernel⟩
theorem ok_wordL (F : FnP K "_law_word" sWordL f fd) (O__law_one : Own P w K mg base 2 "_law_one" ["_law_bag_here", "_law_some"] (spOne K)) : FnOk P w K mg base CX0 3 f fd ["_law_bag_here"] spWord := by
  have nd := scWordL.nd
  refine F.ok scWordL (fun vs H Q E h => ?_) (fun cdv A outer s H vs Q E hr h => ⟨_, PSs.nox (pss_one (ps_ret (Hs.pe_own O__law_one hr (by first | decide | omega) (by rfl) (pa_cons (pv 0) (pa_cons (pe_lst (pa_cons pe_str (pa_cons pe_str (pa_cons pe_str (pa_cons pe_str (pa_cons pe_str (pa_cons pe_str (pa_cons pe_str (pa_cons pe_str (pa_cons pe_str pa_nil)))))))))) pa_nil))))), ?_⟩)
  · obtain ⟨b, l, ns, n, rfl, _⟩ := h
    rfl
  · obtain ⟨b, l, ns, n, rfl, B, hn, k⟩ := h
    refine ⟨_, rfl, sz_of (by simp), fun a ha => ?_⟩
    have ea := Ex.new (o := .lst (wordsL.map V.str)) ha
    refine ⟨b, l, a, ns, n, wordsL.map V.str, rfl, B.ext ea (Nat.le_refl _), by omega, upd_same, bag_ne B ha, by decide, by decide, fun v H1 hv B1 k1 => ?_⟩
    obtain ⟨x, hx, rfl⟩ := List.mem_map.mp hv
    refine k x H1 hx B1 fun c o hc hb => k1 _ _ (ea _ _ hc) hb
end
end Hs
namespace Hs
open PySem PySem.Spec PyProof.Rows L2 Evl
/-! ### a deed, drawn -/
def formsL : List (Str × Str) := [("lamp", "nnnnn"), ("post", "nnnn"), ("pane", "nnnns"), ("move", "wnnn"), ("switch", "n"), ("drop", "wn"), ("look", "nnnnn"), ("strike", "n"), ("settle", "nn")]
def words10 : List Str := ["lamp", "unsure", "post", "pane", "move", "switch", "drop", "look", "strike", "settle"]
def siftsL : List Str := ["", "r", "rgb", "gr", "zz"]
def WD.shape : WD → Prop
  | .plain w xs => (w = "pane" → xs.length = 5) ∧ (w = "move" ∨ w = "drop" → 1 ≤ xs.length)
  | .unsure _ => True
/-- numbers that the law draws -/
def NumL (xs : List V) : Prop := ∃ zs : List Int, xs = zs.map V.int ∧ ∀ z ∈ zs, z.natAbs < 10 ^ 9
theorem NumL.snoc {xs : List V} {z : Int} (h : NumL xs) (hz : z.natAbs < 10 ^ 9) : NumL (xs ++ [.int z]) := by
  obtain ⟨zs, rfl, h⟩ := h
  refine ⟨zs ++ [z], by rw [List.map_append] <;> rfl, fun y hy => ?_⟩
  rcases List.mem_append.mp hy with hy | hy
  · exact h y hy
  · rw [List.mem_singleton.mp hy]
    exact hz
inductive AllRd : List Nat → List V → Prop
  | nil : AllRd [] []
  | cons {c : Nat} {v : V} {cs : List Nat} {vs : List V} : RdOk c (thS v) v → AllRd cs vs → AllRd (c :: cs) (v :: vs)
theorem AllRd.len : ∀ {cs : List Nat} {vs : List V}, AllRd cs vs → cs.length = vs.length
  | _, _, .nil => rfl
  | _, _, .cons _ h => congrArg (· + 1) (AllRd.len h)
theorem AllRd.at_ : ∀ {cs : List Nat} {vs : List V}, AllRd cs vs → ∀ (i c : Nat) (v : V), cs[i]? = some c → vs[i]? = some v → RdOk c (thS v) v
  | _, _, .nil, _, _, _, h, _ => by cases h
  | _, _, .cons h _, 0, _, _, hc, hv => by
    cases hc
    cases hv
    exact h
  | _, _, .cons _ h, i + 1, c, v, hc, hv => AllRd.at_ h i c v hc hv
theorem rd_int {z : Int} (hz : z.natAbs < 10 ^ 9) : RdOk 110 (thS (.int z)) (.int z) := .inl ⟨rfl, z, rfl, rfl, hz⟩
theorem AllRd.ints : ∀ {zs : List Int}, (∀ z ∈ zs, z.natAbs < 10 ^ 9) → AllRd (List.replicate zs.length 110) (zs.map V.int)
  | [], _ => .nil
  | z :: zs, h => .cons (rd_int (h z List.mem_cons_self)) (AllRd.ints fun y hy => h y (List.mem_cons_of_mem _ hy))
theorem AllRd.app : ∀ {cs ds : List Nat} {vs us : List V}, AllRd cs vs → AllRd ds us → AllRd (cs ++ ds) (vs ++ us)
  | _, _, _, _, .nil, h => h
  | _, _, _, _, .cons h t, h2 => .cons h (AllRd.app t h2)
theorem fit_of {K : PySem.W.Frag} {dF : Addr} {w fm : Str} {tk : Tok} {xs : List V} (hw : w ≠ "") (hn : PySem.W.nsIn K dF w = some (some (.str fm tk))) (ha : fm.cps.all (· < 128) = true) (h : AllRd fm.cps.toList xs) : (WD.plain w xs).fit K dF := by
  refine ⟨hw, fm, tk, hn, ha, ?_, fun i c v hc hv => ?_⟩
  · rw [← h.len, Array.length_toList]
  · refine h.at_ i c v ?_ hv
    rw [Array.getElem?_toList]
    exact hc
theorem th_int {z : Int} (hz : z.natAbs < 10 ^ 9) : ThOk (.int z) := .inl ⟨z, rfl, hz⟩
theorem words_ok : ∀ w ∈ words10, ThOk (.str w) ∧ w ≠ "" ∧ w ≠ "many" := by
  intro w hw
  have z : ∀ w ∈ words10, (w.length ≤ 20 ∧ (∀ c ∈ TL.tl w, c < 128) ∧ 32 ∉ TL.tl w ∧ 10 ∉ TL.tl w) ∧ w ≠ "" ∧ w ≠ "many" := by decide +kernel
  exact ⟨.inr ⟨w, rfl, (z w hw).1⟩, (z w hw).2⟩
theorem sorts_ok : ∀ w ∈ wordsL, ThOk (.str w) ∧ RdOk 119 (thS (.str w)) (.str w) := by
  intro w hw
  have z : ∀ w ∈ wordsL, (w.length ≤ 20 ∧ (∀ c ∈ TL.tl w, c < 128) ∧ 32 ∉ TL.tl w ∧ 10 ∉ TL.tl w) ∧ w ≠ "" := by decide +kernel
  obtain ⟨h1, h2⟩ := z w hw
  have e : thS (.str w) = w := if_neg h2
  refine ⟨.inr ⟨w, rfl, h1⟩, .inr ⟨by decide, by rw [e]; exact h2, ?_⟩⟩
  rw [e, if_neg (fun q => absurd q.1 (by decide))]
theorem sifts_ok : ∀ w ∈ siftsL, ThOk (.str w) ∧ RdOk 115 (thS (.str w)) (.str w) := by
  intro w hw
  have z : ∀ w ∈ siftsL, (w.length ≤ 20 ∧ (∀ c ∈ TL.tl w, c < 128) ∧ 32 ∉ TL.tl w ∧ 10 ∉ TL.tl w) ∧ (if w = "" then ("-" : Str) else w) ≠ "" ∧ w = (if (if w = "" then ("-" : Str) else w) = ("-" : Str) then ("" : Str) else (if w = "" then ("-" : Str) else w)) := by decide +kernel
  obtain ⟨h1, h2, h3⟩ := z w hw
  refine ⟨.inr ⟨w, rfl, h1⟩, .inr ⟨by decide, h2, ?_⟩⟩
  show V.str w = .str (if (115 : Nat) = 115 ∧ (if w = "" then ("-" : Str) else w) = ("-" : Str) then ("" : Str) else (if w = "" then ("-" : Str) else w))
  simp only [true_and]
  exact congrArg V.str h3
def spWideD (K : PySem.W.Frag) (dF : Addr) : Sp := fun vs H Q _ => ∃ (b l : Addr) (ns : List Int) (n : Nat), vs = [.ref b] ∧ BagAt H b l ns n ∧ n < 700000 ∧
  ∀ (p : Addr) (d : WD) (H' : Hp), d.ok → d.fit K dF → d.shape → DeedV K H' p d → BagAt H' b l ns (n + 200) → But H H' b → Q (.ref p) H'
end Hs
namespace Hs
open PySem PySem.Spec PyProof.Rows L2 Evl
def GRows (K : PySem.W.Frag) (xs : List V) (H : Hp) : Prop := ∃ (ps : List Addr) (rows : List (List Int)), xs = ps.map V.ref ∧ ps.length = rows.length ∧ (∀ r ∈ rows, r.length = 5 ∧ ∀ n ∈ r, n.natAbs < 10 ^ 9) ∧ ∀ (i : Nat) (p : Addr) (r : List Int), ps[i]? = some p → rows[i]? = some r → SqT K H p (r.map V.int)
theorem GRows.snoc {K : PySem.W.Frag} {xs : List V} {H : Hp} {t : Addr} {ys : List V} (h : GRows K xs H) (hy : NumL ys) (l5 : ys.length = 5) (ht : SqT K H t ys) : GRows K (xs ++ [.ref t]) H := by
  obtain ⟨ps, rows, rfl, h1, h2, h3⟩ := h
  obtain ⟨zs, rfl, hz⟩ := hy
  refine ⟨ps ++ [t], rows ++ [zs], by rw [List.map_append] <;> rfl, by rw [List.length_append, List.length_append, h1] <;> rfl, fun r hr => ?_, fun i p r hp hr => ?_⟩
  · rcases List.mem_append.mp hr with hr | hr
    · exact h2 r hr
    · rw [List.mem_singleton.mp hr]
      exact ⟨by rwa [List.length_map] at l5, hz⟩
  · by_cases hi : i < ps.length
    · rw [List.getElem?_append_left hi] at hp
      rw [List.getElem?_append_left (by omega)] at hr
      exact h3 i p r hp hr
    · rw [List.getElem?_append_right (by omega)] at hp
      rw [List.getElem?_append_right (by omega), ← h1] at hr
      have e0 : i - ps.length = 0 := by
        have : i - ps.length < 1 := (List.getElem?_eq_some_iff.mp hp).1
        omega
      rw [e0] at hp hr
      cases hp
      cases hr
      exact ht
theorem GRows.kp {K : PySem.W.Frag} {xs : List V} {H H' : Hp} (e : Kp H H') (h : GRows K xs H) : GRows K xs H' := by
  obtain ⟨ps, rows, h0, h1, h2, h3⟩ := h
  exact ⟨ps, rows, h0, h1, h2, fun i p r hp hr => e.sqt (h3 i p r hp hr)⟩
def dictL : List (Key × V) := [(.inr "lamp", .int 5), (.inr "post", .int 4), (.inr "switch", .int 1), (.inr "look", .int 5), (.inr "strike", .int 1), (.inr "settle", .int 2)]
section
variable {P : Program} {w : World} {K : PySem.W.Frag} {mg : Str → Option Value} {base : Heap} {f dF : Addr} {fd : FuncData}
/-- five numbers, drawn in a comprehension -/
theorem lc_nums {σ : L2.St} {H : Hp} {Q : VK} {b l : Addr} {ns : List Int} {N j i0 : Nat} {vs : List Nat} (hw : ∀ v, wipe ((wipe σ vs).set j (some v)) vs = wipe σ vs) (hb : ∀ v, ((wipe σ vs).set j (some v))[i0]? = some (some (.ref b))) (B : BagAt H b l ns N) (hN : N < 799900)
    (k : ∀ (D : Addr) (xs : List V) (H' : Hp), H D = none → H' D = some (.lst xs) → xs.length = 5 → NumL xs → BagAt H' b l ns (N + 20) → But H H' b → Q (.ref D) H') : tLc (iRng1 (tCons (tC (.int 5)) tNil)) (gName j) tYes (tCall spWideN [] E0 (tCons (tVar i0) tNil)) vs σ H Q := by
  refine lc_drawR (M := 5) (c := 4) (N := N) (C := fun n => n = 5) (G := fun xs _ => NumL xs) (fun _ _ _ _ h => h) (by decide) hw (fun R r => r 5 H (by decide) rfl B But.refl) (fun _ => ⟨[], rfl, fun _ h => by cases h⟩) (fun i xs H' Q' hi bt Bi kq => ?_) (fun D xs H' nD hD hl hc hG B' b' => k D xs H' nD hD hc hG (by rw [hc] at B'; exact B') b')
  refine ⟨_, hb _, b, l, ns, N + i * 4, rfl, Bi, by omega, fun z H2 hz B2 b2 => kq (.int z) H2 ?_ b2 fun H3 _ g => g.snoc hz⟩
  rw [show N + (i + 1) * 4 = N + i * 4 + 4 by omega]
  exact B2
abbrev sWideD : Stmt := top 30
theorem scWideD : FnScope ["_law_bag_here", "_law_word_here", "_law_some", "_law_rows", "_law_many", "_law_k", "_law_at"] ["_law_bag_here"] (defScope sWideD) := ⟨rfl, rfl, rfl, by decide +kernel, rfl, by decide +kernel, by decide +kernel⟩
theorem ok_wideD (F : FnP K "_law_wide_deed" sWideD f fd) (TF : ∀ x ∈ formsL, ∃ tk, PySem.W.nsIn K dF x.1 = some (some (.str x.2 tk))) (O__law_pull : Own P w K mg base 1 "_law_pull" ["_law_bag_here", "_law_many"] spPull) (O__law_one : Own P w K mg base 2 "_law_one" ["_law_bag_here", "_law_some"] (spOne K)) (O__law_wide_number : Own P w K mg base 2 "_law_wide_number" ["_law_bag_here"] spWideN) (O__law_word : Own P w K mg base 3 "_law_word" ["_law_bag_here"] spWord) (g_range : mg "range" = none) (g_tuple : mg "tuple" = none) : FnOk P w K mg base CX0 4 f fd ["_law_bag_here"] (spWideD K dF) := by
  have nd := scWideD.nd
  refine F.ok scWideD (fun vs H Q E h => ?_) (fun cdv A outer s H vs Q E hr h => ⟨_, PSs.nox (pss_cons (ps_set (i := 1) nd rfl (.inl rfl) (pe_lst (pa_cons pe_str (pa_cons pe_str (pa_cons pe_str (pa_cons pe_str (pa_cons pe_str (pa_cons pe_str (pa_cons pe_str (pa_cons pe_str (pa_cons pe_str (pa_cons pe_str pa_nil))))))))))))
  (pss_cons (ps_set (i := 1) nd rfl (.inl rfl) (pe_ix (r := rIxL K) ix_list (pv 1) (Hs.pe_own O__law_pull hr (by first | decide | omega) (by rfl) (pa_cons (pv 0) (pa_cons pe_int pa_nil))) (fun _ _ => rfl)))
  (pss_cons (ps_setLc (i := 2) (own := [("_law_k", 5)]) rfl nd rfl rfl (sw_true rfl rfl rfl (by decide +kernel)) (pi_range1 (by rfl) g_range (pa_cons pe_int pa_nil)) (blkOk_by (N := ["_law_bag_here", "_law_word_here", "_law_some", "_law_rows", "_law_many", "_law_k", "_law_at"]) (sc := defScope (Hs.top 30)) (by decide +kernel)) (fun _ _ _ _ _ => (pg_name (i := 5) nd rfl (Or.inl rfl))) (fun _ _ _ _ _ => pts_nil) (fun _ _ _ _ _ => (Hs.pe_own O__law_wide_number hr (by first | decide | omega) (by rfl) (pa_cons (pv 0) pa_nil))))
  (pss_cons (ps_if (pt_cmpR op_eq (pv 1) pe_str (nomark _)) (pss_cons (ps_setLc (i := 3) (own := [("_law_k", 5)]) rfl nd rfl rfl (sw_true rfl rfl rfl (by decide +kernel)) (pi_range1 (by rfl) g_range (pa_cons (pe_op op_add pe_int (Hs.pe_own O__law_pull hr (by first | decide | omega) (by rfl) (pa_cons (pv 0) (pa_cons pe_int pa_nil)))) pa_nil)) (blkOk_by (N := ["_law_bag_here", "_law_word_here", "_law_some", "_law_rows", "_law_many", "_law_k", "_law_at"]) (sc := defScope (Hs.top 30)) (by decide +kernel)) (fun _ _ _ _ _ => (pg_name (i := 5) nd rfl (Or.inl rfl))) (fun _ _ _ _ _ => pts_nil) (fun _ _ _ _ _ => (pe_callTy (T := "tuple") (r := Hs.rTupK K) call_tuple_of (by rfl) g_tuple (by decide +kernel) (pa_cons (by exact (pe_lc (own := [("_law_at", 6)]) rfl nd (pi_range1 (by rfl) g_range (pa_cons pe_int pa_nil)) (blkOk_by (N := ["_law_bag_here", "_law_word_here", "_law_some", "_law_rows", "_law_many", "_law_k", "_law_at"]) (by rfl)) (fun _ _ _ _ _ => (pg_name (i := 6) nd rfl (Or.inl rfl))) (fun _ _ _ _ _ => pts_nil) (fun _ _ _ _ _ => (Hs.pe_own O__law_wide_number hr (by first | decide | omega) (by rfl) (pa_cons (pv 0) pa_nil))))) pa_nil))))
  (pss_one (ps_ret (pe_tup (pa_cons (pv 1) (pa_cons (pe_callTy call_tuple_of (by rfl) g_tuple (by decide +kernel) (pa_cons (pv 3) pa_nil)) pa_nil)))))) pss_nil)
  (pss_cons (ps_if (pt_cmpR op_eq (pv 1) pe_str (nomark _)) (pss_one (ps_ret (pe_op (r := rCatT K) op_catT (pe_op (r := rCatT K) op_catT (pe_tup (pa_cons (pv 1) pa_nil)) (pe_callTy call_tuple_of (by rfl) g_tuple (by decide +kernel) (pa_cons (pe_slice sl_list (pv 2) po_none (po_some pe_int)) pa_nil))) (pe_tup (pa_cons (Hs.pe_own O__law_one hr (by first | decide | omega) (by rfl) (pa_cons (pv 0) (pa_cons (pe_lst (pa_cons pe_str (pa_cons pe_str (pa_cons pe_str (pa_cons pe_str (pa_cons pe_str pa_nil)))))) pa_nil))) pa_nil))))) pss_nil)
  (pss_cons (ps_if (pt_cmpR op_in_seq (pv 1) (pe_tup (pa_cons pe_str (pa_cons pe_str pa_nil))) (by rfl)) (pss_one (ps_ret (pe_op (r := rCatT K) op_catT (pe_tup (pa_cons (pv 1) (pa_cons (Hs.pe_own O__law_word hr (by first | decide | omega) (by rfl) (pa_cons (pv 0) pa_nil)) pa_nil))) (pe_callTy call_tuple_of (by rfl) g_tuple (by decide +kernel) (pa_cons (pe_slice sl_list (pv 2) po_none (po_some (pe_ifExp (pt_cmpR op_eq (pv 1) pe_str (nomark _)) pe_int pe_int))) pa_nil))))) pss_nil)
  (pss_cons (ps_set (i := 4) nd rfl (.inl rfl) (pe_disp (pps_cons pe_str pe_int (pps_cons pe_str pe_int (pps_cons pe_str pe_int (pps_cons pe_str pe_int (pps_cons pe_str pe_int (pps_cons pe_str pe_int pps_nil)))))) (by rfl) (by rfl) (by simp) (by decide)))
  (pss_one (ps_ret (pe_op (r := rCatT K) op_catT (pe_tup (pa_cons (pv 1) pa_nil)) (pe_callTy call_tuple_of (by rfl) g_tuple (by decide +kernel) (pa_cons (pe_slice sl_list (pv 2) po_none (po_some (pe_dget (Hs.un1 hr) (pv 4) (pv 1) (fun _ _ => rfl)))) pa_nil)))))))))))), ?_⟩)
  · obtain ⟨b, l, ns, n, rfl, _⟩ := h
    rfl
  · obtain ⟨b, l, ns, n, rfl, B, hn, k⟩ := h
    refine ⟨sz_of (by simp), fun a ha => ?_⟩
    have ea := Ex.new (o := .lst (words10.map V.str)) ha
    refine ⟨_, rfl, _, rfl, b, l, ns, n, 10, rfl, B.ext ea (Nat.le_refl _), by omega, by decide, by decide, fun v0 H1 p0 q0 B1 k1 => ?_⟩
    have ha1 := k1 _ _ (upd_same (H := H) (a := a) (o := .lst (words10.map V.str))) (bag_ne B ha)
    obtain ⟨x, hat, hx⟩ := atI_get (xs := words10.map V.str) p0 q0
    obtain ⟨wd, hwd, rfl⟩ := List.mem_map.mp hx
    obtain ⟨thw, wne, wnm⟩ := words_ok wd hwd
    refine ⟨a, _, v0, _, rfl, rfl, sq_of ha1, hat, ?_⟩
    dsimp only [gName]
    refine q_te (lc_nums (i0 := 0) (j := 5) (vs := [5]) (σ := [some (.ref b), some (.str wd), none, none, none, none, none]) (fun _ => rfl) (fun _ => rfl) B1 (by omega) fun S xs H2 nS hS l5 hxs B2 k2 => ?_)
    have kk : But H H2 b := fun c o hc hb => k2 _ _ (k1 _ _ (ea _ _ hc) hb) hb
    have nSb := bag_ne B1 nS
    clear hat hx ha1 k1 k2 B1 ea
    by_cases h1 : wd = "unsure"
    · subst h1
      refine q_when (b := true) (et_is (et_test (ev_op (ev_var rfl) ev_c (rv_eq rfl))) (by simp)) (fun _ H3 e3 => ?_) (fun ht => Bool.noConfusion ht)
      have B3 := B2.ext e3 (Nat.le_refl _)
      refine q_te (lc_drawR (b := b) (l := l) (ns := ns) (j := 5) (vs := [5]) (σ := [some (.ref b), some (.str "unsure"), some (.ref S), none, none, none, none]) (M := 8) (c := 20) (N := n + 22) (C := fun n => 1 ≤ n) (G := GRows K) (fun _ _ _ e h => h.kp e) (by decide) (fun _ => rfl) (fun R r => ?_) (fun _ => ⟨[], [], rfl, rfl, (fun _ h => by cases h), (fun _ _ _ h _ => by cases h)⟩) (fun i xs' H' Q' hi bt Bi kq => ?_) (fun D rs H4 nD hD hl8 hc1 hG B4 k4 => ?_))
      · refine ⟨_, rfl, b, l, ns, n + 1 + 20, 8, rfl, B3, by omega, by decide, by decide, fun v H4 p4 q4 B4 k4 => ⟨1, v, rfl, rfl, ?_⟩⟩
        have z := r (v.toNat + 1) H4 (by omega) (by omega) B4 k4
        rw [show ((v.toNat + 1 : Nat) : Int) = 1 + v by omega] at z
        exact z
      · refine tup_te (lc_nums (i0 := 0) (j := 6) (vs := [6]) (σ := [some (.ref b), some (.str "unsure"), some (.ref S), none, none, some (.int (0 + (i : Nat))), none]) (fun _ => rfl) (fun _ => rfl) Bi (by omega) fun D ys H4 nD hD l5' hys B4 k4 => ⟨D, ys, rfl, .inl ⟨sq_of hD, fun t ht => ?_⟩⟩)
        have et := Ex.new (o := .tup ys) ht
        exact kq (.ref t) _ (B4.ext et (by omega)) (k4.ex et) fun H5 kp g => g.snoc hys l5' (kp.sqt (st_of upd_same))
      · obtain ⟨ps, rows, rfl, g1, g2, g3⟩ := hG
        rw [List.length_map] at hl8 hc1 B4
        refine ⟨_, rfl, _, rfl, D, ps.map V.ref, rfl, .inl ⟨sq_of hD, fun c hc => ⟨sz_of (by simp), fun p hp => ?_⟩⟩⟩
        have ec := Ex.new (o := .tup (ps.map V.ref)) hc
        have ep := Ex.new (o := .tup [V.str "unsure", .ref c]) hp
        have e5 := ec.trans ep
        refine k p (.unsure rows) _ ⟨by omega, g2⟩ (fun z => by rw [z, List.length_nil] at g1; omega) trivial ⟨c, ps, st_of upd_same, ex_t ep (st_of upd_same), g1, fun i q r hq hr => ex_t e5 (g3 i q r hq hr)⟩ (B4.ext e5 (by omega)) ?_
        exact (((kk.ex e3).trans k4)).ex e5
    · refine q_when (b := false) (et_is (et_test (ev_op (ev_var (v := .str wd) rfl) ev_c (rv_eq rfl))) (by simp [h1])) (fun ht => Bool.noConfusion ht) (fun _ H3 e3 => ?_)
      have B3 := B2.ext e3 (Nat.le_refl _)
      have hS3 := e3 _ _ hS
      have k3 : But H H3 b := kk.ex e3
      obtain ⟨zs, rfl, hzs⟩ := hxs
      rw [List.length_map] at l5
      have sl : ∀ {σ : L2.St} {H' : Hp} {th : TO} {m : Nat}, σ[2]? = some (some (.ref S)) → H' S = some (.lst (zs.map V.int)) → m ≤ 5 → EvO th σ H' (some (m : Int)) → EvL (tSl (rSlL K) (tVar 2) tNoPart th) σ H' ((zs.take m).map V.int) := fun {σ H' th m} h0 e hm hth => by
        have q := el_sl (K := K) (σ := σ) (H := H') (ev_var h0) eo_none hth (sq_of e)
        have ec : cutV (zs.map V.int) none (some (m : Int)) = (zs.take m).map V.int := by
          unfold cutV
          rw [HT.sIx_nat, HT.sIx_none, List.drop_zero, Nat.sub_zero, List.length_map, l5, Nat.min_eq_left hm, List.map_take]
        rw [ec] at q
        exact q
      have hzt : ∀ m, ∀ z ∈ zs.take m, z.natAbs < 10 ^ 9 := fun m z hz => hzs z (List.mem_of_mem_take hz)
      have lzt : ∀ m, m ≤ 5 → (zs.take m).length = m := fun m hm => by rw [List.length_take]; omega
      have tht : ∀ m, ∀ x ∈ (zs.take m).map V.int, ThOk x := fun m x hx => by
        obtain ⟨z, hz, rfl⟩ := List.mem_map.mp hx
        exact th_int (hzt m z hz)
      by_cases h2 : wd = "pane"
      · subst h2
        obtain ⟨tk, htk⟩ := TF ("pane", "nnnns") (by decide +kernel)
        refine q_when (b := true) (et_is (et_test (ev_op (ev_var rfl) ev_c (rv_eq rfl))) (by simp)) (fun _ H4 e4 => ?_) (fun ht => Bool.noConfusion ht)
        have B4 := B3.ext e4 (Nat.le_refl _)
        refine eu_go (eu_catT (K := K) (xs := [V.str "pane"]) (ys := (zs.take 4).map V.int) (eu_tup (ea_cons (ev_var rfl) ea_nil) (by simp)) (eu_tupOf (sl (m := 4) rfl (e4 _ _ hS3) (by decide) (eo_some ev_c))) (by simp) (by intro z; have := congrArg List.length z; rw [List.length_map, lzt 4 (by decide)] at this; cases this) (by rw [List.length_map, lzt 4 (by decide)] <;> decide)) fun p1 H5 n1 e5 hp1 => ?_
        have B5 := B4.ext e5 (Nat.le_refl _)
        refine ⟨_, rfl, sz_of (by simp), fun a5 ha5 => ?_⟩
        have ea5 := Ex.new (o := .lst (siftsL.map V.str)) ha5
        refine ⟨b, l, a5, ns, n + 1 + 20, siftsL.map V.str, rfl, B5.ext ea5 (Nat.le_refl _), by omega, upd_same, bag_ne B5 ha5, by decide, by decide, fun v H6 hv B6 k6 => ⟨sz_of (by simp), fun p2 hp2 => ?_⟩⟩
        obtain ⟨x, hx, rfl⟩ := List.mem_map.mp hv
        obtain ⟨s1, s2⟩ := sifts_ok x hx
        have e2' := Ex.new (o := .tup [V.str x]) hp2
        have hp1' := e2' _ _ (k6.tup (B5.ext ea5 (Nat.le_refl _)) (ea5 _ _ hp1))
        refine ⟨p1, p2, _, _, rfl, rfl, st_of hp1', st_of upd_same, by simp, sz_of (by simp; omega), (fun z => by cases z), fun _ q hq => ?_⟩
        have eq := Ex.new (o := .tup (([V.str "pane"] ++ (zs.take 4).map V.int) ++ [V.str x])) hq
        have al : AllRd (("nnnns" : Str).cps.toList) ((zs.take 4).map V.int ++ [V.str x]) := by
          have z := (AllRd.ints (hzt 4)).app (.cons s2 .nil)
          rw [lzt 4 (by decide)] at z
          have e : ("nnnns" : Str).cps.toList = List.replicate 4 110 ++ [115] := by decide +kernel
          rw [e]
          exact z
        have ll : ((zs.take 4).map V.int ++ [V.str x]).length = 5 := by rw [List.length_append, List.length_map, lzt 4 (by decide)] <;> rfl
        refine k q (.plain "pane" ((zs.take 4).map V.int ++ [V.str x])) _ ⟨wnm, h1, fun y hy => ?_, by rw [ll]; decide⟩ (fit_of wne htk (by decide +kernel) al) ⟨fun _ => ll, fun _ => by rw [ll]; decide⟩ (st_of (upd_same (o := .tup (([V.str "pane"] ++ (zs.take 4).map V.int) ++ [V.str x])))) (B6.ext (e2'.trans eq) (by omega)) ?_
        · rcases List.mem_cons.mp hy with rfl | hy
          · exact thw
          · rcases List.mem_append.mp hy with hy | hy
            · exact tht 4 y hy
            · rw [List.mem_singleton.mp hy]
              exact s1
        · exact ((k3.ex (((e4.trans e5).trans ea5))).trans k6).ex (e2'.trans eq)
      · refine q_when (b := false) (et_is (et_test (ev_op (ev_var (v := .str wd) rfl) ev_c (rv_eq rfl))) (by simp [h2])) (fun ht => Bool.noConfusion ht) (fun _ H4 e4 => ?_)
        have B4 := B3.ext e4 (Nat.le_refl _)
        by_cases h3 : wd = "move" ∨ wd = "drop"
        · obtain ⟨m, hm5, hm1, hm, fm, ⟨tk, htk⟩, hcs, hfa⟩ : ∃ m : Nat, m ≤ 5 ∧ 1 ≤ m ∧ ((wd = "move" ∧ m = 3) ∨ (wd = "drop" ∧ m = 1)) ∧ ∃ fm : Str, (∃ tk, PySem.W.nsIn K dF wd = some (some (.str fm tk))) ∧ fm.cps.toList = 119 :: List.replicate m 110 ∧ fm.cps.all (· < 128) = true := by
            rcases h3 with rfl | rfl
            · exact ⟨3, by decide, by decide, .inl ⟨rfl, rfl⟩, "wnnn", TF ("move", "wnnn") (by decide +kernel), by decide +kernel, by decide +kernel⟩
            · exact ⟨1, by decide, by decide, .inr ⟨rfl, rfl⟩, "wn", TF ("drop", "wn") (by decide +kernel), by decide +kernel, by decide +kernel⟩
          have win : inV (.str wd) [V.str "move", .str "drop"] = true := by
            rcases h3 with rfl | rfl <;> decide +kernel
          refine q_when (b := true) (et_is (et_test (ev_inU (K := K) (ev_var (v := .str wd) rfl) (eu_tup (ea_cons ev_c (ea_cons ev_c ea_nil)) (by simp)) rfl rfl)) win) (fun _ H5 e5 => ?_) (fun ht => Bool.noConfusion ht)
          have B5 := B4.ext e5 (Nat.le_refl _)
          refine ⟨_, rfl, _, rfl, b, l, ns, n + 1 + 20, rfl, B5, by omega, fun x H6 hx B6 k6 => ⟨sz_of (by simp), fun p1 hp1 => ?_⟩⟩
          obtain ⟨s1, s2⟩ := sorts_ok x hx
          have e1' := Ex.new (o := .tup [V.str wd, .str x]) hp1
          have hS7 := e1' _ _ (k6 _ _ ((e4.trans e5) _ _ hS3) nSb)
          have eo : EvO (tPart (tIf (tTest (tOp rEq (tVar 1) (tC (.str "move")))) (tC (.int 3)) (tC (.int 1)))) [some (.ref b), some (.str wd), some (.ref S), none, none, none, none] (upd H6 p1 (.tup [V.str wd, .str x])) (some (m : Int)) := by
            rcases hm with ⟨rfl, rfl⟩ | ⟨rfl, rfl⟩
            · exact eo_some (ev_if (b := true) (et_is (et_test (ev_op (ev_var rfl) ev_c (rv_eq rfl))) (by simp)) (fun _ => ev_c) (fun h => Bool.noConfusion h))
            · exact eo_some (ev_if (b := false) (et_is (et_test (ev_op (ev_var rfl) ev_c (rv_eq rfl))) (by decide +kernel)) (fun h => Bool.noConfusion h) (fun _ => ev_c))
          refine eu_go (eu_tupOf (sl rfl hS7 hm5 eo)) fun p2 H7 n7 e7 hp2 => ?_
          have lz := lzt m hm5
          refine ⟨p1, p2, _, _, rfl, rfl, st_of (e7 _ _ upd_same), st_of hp2, by simp, sz_of (by simp; omega), (fun z => by have := congrArg List.length z; rw [List.length_map, lz] at this; exact absurd this (by intro h; simp at h; omega)), fun _ q hq => ?_⟩
          have eq := Ex.new (o := .tup ([V.str wd, .str x] ++ (zs.take m).map V.int)) hq
          have al : AllRd fm.cps.toList (.str x :: (zs.take m).map V.int) := by
            have z := AllRd.ints (hzt m)
            rw [lz] at z
            rw [hcs]
            exact .cons s2 z
          have ll : (V.str x :: (zs.take m).map V.int).length = m + 1 := by rw [List.length_cons, List.length_map, lz]
          refine k q (.plain wd (.str x :: (zs.take m).map V.int)) _ ⟨wnm, h1, fun y hy => ?_, by rw [ll]; omega⟩ (fit_of wne htk hfa al) ⟨fun z => absurd z h2, fun _ => by rw [ll]; omega⟩ (st_of (upd_same (o := .tup ([V.str wd, .str x] ++ (zs.take m).map V.int)))) (B6.ext ((e1'.trans e7).trans eq) (by omega)) ?_
          · rcases List.mem_cons.mp hy with rfl | hy
            · exact thw
            · rcases List.mem_cons.mp hy with rfl | hy
              · exact s1
              · exact tht m y hy
          · exact ((k3.ex (e4.trans e5)).trans k6).ex ((e1'.trans e7).trans eq)
        · obtain ⟨m, hm5, hm1, fm, ⟨tk, htk⟩, hcs, hfa, hv, nin⟩ : ∃ m : Nat, m ≤ 5 ∧ 1 ≤ m ∧ ∃ fm : Str, (∃ tk, PySem.W.nsIn K dF wd = some (some (.str fm tk))) ∧ fm.cps.toList = List.replicate m 110 ∧ fm.cps.all (· < 128) = true ∧ valV dictL (.inr wd) = some (.int (m : Int)) ∧ inV (.str wd) [V.str "move", .str "drop"] = false := by
            simp only [words10, List.mem_cons, List.not_mem_nil, or_false] at hwd
            rcases hwd with rfl | rfl | rfl | rfl | rfl | rfl | rfl | rfl | rfl | rfl
            · exact ⟨5, by decide, by decide, "nnnnn", TF ("lamp", "nnnnn") (by decide +kernel), by decide +kernel, by decide +kernel, by rfl, by decide +kernel⟩
            · exact absurd rfl h1
            · exact ⟨4, by decide, by decide, "nnnn", TF ("post", "nnnn") (by decide +kernel), by decide +kernel, by decide +kernel, by rfl, by decide +kernel⟩
            · exact absurd rfl h2
            · exact absurd (.inl rfl) h3
            · exact ⟨1, by decide, by decide, "n", TF ("switch", "n") (by decide +kernel), by decide +kernel, by decide +kernel, by rfl, by decide +kernel⟩
            · exact absurd (.inr rfl) h3
            · exact ⟨5, by decide, by decide, "nnnnn", TF ("look", "nnnnn") (by decide +kernel), by decide +kernel, by decide +kernel, by rfl, by decide +kernel⟩
            · exact ⟨1, by decide, by decide, "n", TF ("strike", "n") (by decide +kernel), by decide +kernel, by decide +kernel, by rfl, by decide +kernel⟩
            · exact ⟨2, by decide, by decide, "nn", TF ("settle", "nn") (by decide +kernel), by decide +kernel, by decide +kernel, by rfl, by decide +kernel⟩
          refine q_when (b := false) (et_is (et_test (ev_inU (K := K) (ev_var (v := .str wd) rfl) (eu_tup (ea_cons ev_c (ea_cons ev_c ea_nil)) (by simp)) rfl rfl)) nin) (fun ht => Bool.noConfusion ht) (fun _ H5 e5 => ?_)
          refine q_te fun dp hdp => ⟨upd_same, dictL, rfl, by decide, ?_⟩
          have em : mergeK [] dictL = dictL := by rfl
          rw [em]
          have ed : Ex H5 (upd (upd H5 dp (.dK [])) dp (.dK dictL)) := Ex.mut (Ex.new hdp) hdp
          generalize hH6 : upd (upd H5 dp (.dK [])) dp (.dK dictL) = H6
          have hdp6 : H6 dp = some (.dK dictL) := by
            rw [← hH6]
            exact upd_same
          rw [hH6] at ed
          have lz := lzt m hm5
          have eo : EvO (tPart (tDGet (tVar 4) (tVar 1))) [some (.ref b), some (.str wd), some (.ref S), none, some (.ref dp), none, none] H6 (some (m : Int)) := eo_some fun H7 e7 Q7 q7 => ⟨_, rfl, _, rfl, dp, .int (m : Int), rfl, by
            have g := DGet.k (k := .inr wd) (e7 _ _ hdp6)
            rw [hv] at g
            exact g, q7 H7 (Ex.refl _)⟩
          refine s_retU (eu_catT (K := K) (xs := [V.str wd]) (ys := (zs.take m).map V.int) (eu_tup (ea_cons (ev_var rfl) ea_nil) (by simp)) (eu_tupOf (sl rfl (ed _ _ ((e4.trans e5) _ _ hS3)) hm5 eo)) (by simp) (fun z => by have := congrArg List.length z; rw [List.length_map, lz] at this; exact absurd this (by intro h; simp at h; omega)) (by rw [List.length_map, lz]; simp; omega)) fun q H7 nq e7 hq => ?_
          have al : AllRd fm.cps.toList ((zs.take m).map V.int) := by
            have z := AllRd.ints (hzt m)
            rw [lz] at z
            rw [hcs]
            exact z
          have ll : ((zs.take m).map V.int).length = m := by rw [List.length_map, lz]
          refine k q (.plain wd ((zs.take m).map V.int)) _ ⟨wnm, h1, fun y hy => ?_, by rw [ll]; omega⟩ (fit_of wne htk hfa al) ⟨fun z => absurd z h2, fun z => absurd z h3⟩ (st_of hq) (B4.ext ((e5.trans ed).trans e7) (by omega)) ?_
          · rcases List.mem_cons.mp hy with rfl | hy
            · exact thw
            · exact tht m y hy
          · exact k3.ex ((e4.trans e5).trans (ed.trans e7))
end
end Hs
namespace Hs
open PySem PySem.Spec PyProof.Rows L2 Evl
theorem pi_tupK {X : Cx} {tg e : Expr} {te : TE} {K : PySem.W.Frag} (he : PE X e te) (hK : X.K = K := by rfl) : PI X tg e (iTup K te) := by
  subst hK
  exact pi_tup he
abbrev tJnK (K : PySem.W.Frag) (to te : TE) : TE := tM1 (fun x xs H Q => ∃ a p, ∃ ys : List Str, x = .str a ∧ xs = [.ref p] ∧ (SqL K H p (ys.map V.str) ∨ SqT K H p (ys.map V.str)) ∧ (ys.map (·.length)).sum + ys.length * a.length ≤ 16777216 ∧ Q (.str (Txt.join a ys)) H) to te
theorem pe_joinK {X : Cx} {K : PySem.W.Frag} {o e : Expr} {to te : TE} {apos pos : Pos} (ho : PE X o to) (he : PE X e te) (hK : X.K = K := by rfl) (hs : starEach [e] X.env = [(false, eval e X.env)] := by rfl) (hbase : attributeBase o "join" X.env (eval o X.env) = eval o X.env := by rfl) (hline : (apos.endLine == pos.line) = true := by rfl) :
    PE X (.Call (.Attribute o "join" apos) [e] [] pos) (tJnK K to te) := by
  subst hK
  exact pe_join ho he hs hbase hline
end Hs
namespace Hs
open PySem PySem.Spec PyProof.Rows L2 Evl
/-! ### the law's own row; whether a deed is plain -/
theorem ev_jn {K : PySem.W.Frag} {te : TE} {σ : L2.St} {H : Hp} {s : Str} {ys : List Str} {k : Nat} (h : EvL te σ H (ys.map V.str)) (hk : ∀ p ∈ ys, p.length ≤ k) (hb : ys.length * (k + s.length) ≤ 100000) : Ev (tJnK K (tC (.str s)) te) σ H (.str (Txt.join s ys)) := fun H1 e Q q =>
  ⟨⟨_, rfl⟩, h H1 e _ fun p H2 n2 e2 h2 => ⟨s, p, ys, rfl, rfl, .inl (sq_of h2), by
    have z := sum_le (k := k) ys hk
    rw [Nat.mul_add] at hb
    omega, q H2 e2⟩⟩
theorem log_int {n : Int} (hn : n.natAbs < 10 ^ 9) : n.natAbs.log2 < 1920 := Nat.lt_of_lt_of_le (PySem.Flt.log2_lt_of (k := 30) (by decide) (Nat.lt_of_lt_of_le hn (by decide))) (by decide)
abbrev rStrB : List V → Hp → VK → Prop := fun xs H Q => (∃ i, xs = [V.int i] ∧ i.natAbs.log2 < 1920 ∧ Q (V.str (Str.ofString (toString i))) H) ∨ ∃ a, xs = [V.str a] ∧ Q (V.str a) H
theorem ev_strI {σ : L2.St} {H : Hp} {i : Nat} {n : Int} (h : σ[i]? = some (some (.int n))) (hn : n.natAbs < 10 ^ 9) : Ev (tCB rStrB (tCons (tVar i) tNil)) σ H (.str (numS n)) := fun H1 e Q q => ⟨_, h, .inl ⟨n, rfl, log_int hn, q H1 (Ex.refl _)⟩⟩
theorem ev_part {σ : L2.St} {H : Hp} {i : Nat} {v : V} (h : σ[i]? = some (some v)) (hv : ThOk v) : Ev (tIf (tTest (tOp rNe (tVar i) (tC (.str "")))) (tCB rStrB (tCons (tVar i) tNil)) (tC (.str "-"))) σ H (.str (thS v)) := by
  rcases hv with ⟨n, rfl, hn⟩ | ⟨x, rfl, _⟩
  · exact ev_if (b := true) (et_is (et_test (ev_op (ev_var h) ev_c (rv_ne rfl))) (by simp)) (fun _ => ev_strI h hn) (fun z => Bool.noConfusion z)
  · by_cases hx : x = ""
    · have e : thS (.str x) = "-" := if_pos hx
      rw [e]
      exact ev_if (b := false) (et_is (et_test (ev_op (ev_var h) ev_c (rv_ne rfl))) (by simp [hx])) (fun z => Bool.noConfusion z) (fun _ => ev_c)
    · have e : thS (.str x) = x := if_neg hx
      rw [e]
      exact ev_if (b := true) (et_is (et_test (ev_op (ev_var h) ev_c (rv_ne rfl))) (by simp [hx])) (fun _ => fun H1 e Q q => ⟨_, h, .inr ⟨x, rfl, q H1 (Ex.refl _)⟩⟩) (fun z => Bool.noConfusion z)
theorem th_flat {v : V} (h : ThOk v) : flatV v = true := by
  rcases h with ⟨n, rfl, _⟩ | ⟨x, rfl, _⟩ <;> rfl
def spLRow (K : PySem.W.Frag) : Sp := fun vs H Q _ => ∃ (a : Addr) (d : WD), vs = [.ref a] ∧ DeedV K H a d ∧ d.ok ∧ RetV (.str d.text) H Q
def WD.plainB : WD → Bool
  | .unsure rows => decide ((2 : Int) ≤ (rows.length : Int)) && decide ((rows.length : Int) ≤ 6)
  | .plain w xs => if inV (.str w) [V.str "move", .str "drop"] = true then inV (xs.getD 0 .non) [V.str "lamp", .str "post", .str "pane"] else (!decide (V.str w = .str "pane")) || inV (xs.getD 4 .non) [V.str "", .str "r", .str "g", .str "b", .str "rg", .str "rb", .str "gb", .str "rgb"]
def spPlain (K : PySem.W.Frag) : Sp := fun vs H Q _ => ∃ (a : Addr) (d : WD), vs = [.ref a] ∧ DeedV K H a d ∧ d.ok ∧ d.shape ∧ RetV (.bl d.plainB) H Q
section
variable {P : Program} {w : World} {K : PySem.W.Frag} {mg : Str → Option Value} {base : Heap} {f dF : Addr} {fd : FuncData}
abbrev sLRow : Stmt := top 31
theorem scLRow : FnScope ["_law_deed", "_law_one_here", "_law_part"] ["_law_deed"] (defScope sLRow) := ⟨rfl, rfl, rfl, by decide +kernel, rfl, by decide +kernel, by decide +kernel⟩
theorem ok_lRow (F : FnP K "_law_row_text" sLRow f fd) (g_str : mg "str" = none) : FnOk P w K mg base CX0 1 f fd ["_law_deed"] (spLRow K) := by
  have nd := scLRow.nd
  refine F.ok scLRow (fun vs H Q E h => ?_) (fun cdv A outer s H vs Q E hr h => ⟨_, PSs.nox (pss_cons (ps_if (pt_cmpR op_eq (pe_ix (r := rIxT K) ix_tup (pv 0) pe_int (fun _ _ => rfl)) pe_str (nomark _)) (pss_one (ps_ret (pe_op op_add_str pe_str (pe_join pe_str (pe_lc (own := [("_law_one_here", 1)]) rfl nd (pi_tup (pe_ix (r := rIxT K) ix_tup (pv 0) pe_int (fun _ _ => rfl))) (blkOk_by (N := ["_law_deed", "_law_one_here", "_law_part"]) (sc := defScope (Hs.top 31)) (by decide +kernel)) (fun _ _ _ _ _ => (pg_name (i := 1) nd rfl (Or.inl rfl))) (fun _ _ _ _ _ => pts_nil) (fun _ _ _ _ _ => (Hs.pe_joinK (K := K) pe_str (pe_lc (own := [("_law_part", 2)]) rfl nd (Hs.pi_tupK (K := K) (pv 1)) (blkOk_by (N := ["_law_deed", "_law_one_here", "_law_part"]) (by rfl)) (fun _ _ _ _ _ => (pg_name (i := 2) nd rfl (Or.inl rfl))) (fun _ _ _ _ _ => pts_nil) (fun _ _ _ _ _ => (pe_callTy (call_str_int.or SkE.call_str_str) (by rfl) g_str (by decide +kernel) (pa_cons (pv 2) pa_nil))))))))))) pss_nil)
  (pss_one (ps_ret (pe_join pe_str (pe_lc (own := [("_law_part", 2)]) rfl nd (pi_tup (pv 0)) (blkOk_by (N := ["_law_deed", "_law_one_here", "_law_part"]) (sc := defScope (Hs.top 31)) (by decide +kernel)) (fun _ _ _ _ _ => (pg_name (i := 2) nd rfl (Or.inl rfl))) (fun _ _ _ _ _ => pts_nil) (fun _ _ _ _ _ => (pe_ifExp (pt_cmpR op_ne (pv 2) pe_str (nomark _)) (pe_callTy (call_str_int.or SkE.call_str_str) (by rfl) g_str (by decide +kernel) (pa_cons (pv 2) pa_nil)) pe_str))))))), ?_⟩)
  · obtain ⟨a, d, rfl, _⟩ := h
    rfl
  · obtain ⟨a, d, rfl, hd, ok, k⟩ := h
    cases d with
    | plain wd xs =>
      obtain ⟨h1, h2, h3, h4⟩ := ok
      have hd : SqT K H a (.str wd :: xs) := hd
      refine q_when (b := false) (et_is (et_test (ev_op (ev_op (ev_var rfl) ev_c (rv_ixT (v := .str wd) hd (atI_nat (xs := .str wd :: xs) (j := 0) rfl))) ev_c (rv_eq rfl))) (by simp [h2])) (fun ht => Bool.noConfusion ht) (fun _ H1 e1 => ?_)
      have key : EvL (tLc (iTup K (tVar 0)) (gName 2) tYes (tIf (tTest (tOp rNe (tVar 2) (tC (.str "")))) (tCB rStrB (tCons (tVar 2) tNil)) (tC (.str "-"))) [2]) [some (.ref a), none, none] H1 (((V.str wd :: xs).map thS).map V.str) := by
        have z := el_lcTu (K := K) (tl := tVar 0) (te := tIf (tTest (tOp rNe (tVar 2) (tC (.str "")))) (tCB rStrB (tCons (tVar 2) tNil)) (tC (.str "-"))) (j := 2) (vs := [2]) (σ := [some (.ref a), none, none]) (xs := V.str wd :: xs) (fun i => V.str (thS ((V.str wd :: xs).getD i .non))) (ev_var rfl) (ex_t e1 hd) (by rw [List.length_cons]; omega) (fun _ => rfl) (fun i x H2 e2 hi => by
          have eg : (V.str wd :: xs).getD i .non = x := by rw [List.getD_eq_getElem?_getD, hi] <;> rfl
          rw [eg]
          exact ev_part rfl (h3 x (List.mem_of_getElem? hi)))
        rw [given_mapA (g := fun v => V.str (thS v)) (d := .non)] at z
        rw [List.map_map]
        exact z
      refine s_ret (ev_jn (K := K) (k := 20) key (fun p hp => ?_) ?_) fun H2 e2 => k H2 (e1.trans e2)
      · obtain ⟨x, hx, rfl⟩ := List.mem_map.mp hp
        exact thS_len (h3 x hx)
      · have q1 : (" " : Str).length = 1 := by decide +kernel
        rw [q1, List.length_map, List.length_cons]
        omega
    | unsure rows =>
      obtain ⟨lr, hr5⟩ := ok
      obtain ⟨c, ps, hd, hc, hl, hp⟩ := hd
      refine q_when (b := true) (et_is (et_test (ev_op (ev_op (ev_var rfl) ev_c (rv_ixT (v := .str "unsure") hd rfl)) ev_c (rv_eq rfl))) (by simp)) (fun _ H1 e1 => ?_) (fun ht => Bool.noConfusion ht)
      have key : EvL (tLc (iTup K (tOp (rIxT K) (tVar 0) (tC (.int 1)))) (gName 1) tYes (tJnK K (tC (.str " ")) (tLc (iTup K (tVar 1)) (gName 2) tYes (tCB rStrB (tCons (tVar 2) tNil)) [2])) [1]) [some (.ref a), none, none] H1 ((rows.map rowS).map V.str) := by
        have z := el_lcTu (K := K) (tl := tOp (rIxT K) (tVar 0) (tC (.int 1))) (te := tJnK K (tC (.str " ")) (tLc (iTup K (tVar 1)) (gName 2) tYes (tCB rStrB (tCons (tVar 2) tNil)) [2])) (j := 1) (vs := [1]) (σ := [some (.ref a), none, none]) (xs := ps.map V.ref) (a := c) (fun i => V.str (rowS (rows.getD i []))) (ev_op (ev_var rfl) ev_c (rv_ixT (v := .ref c) (ex_t e1 hd) rfl)) (ex_t e1 hc) (by rw [List.length_map]; omega) (fun _ => rfl) (fun i x H2 e2 hi => by
          rw [List.getElem?_map] at hi
          obtain ⟨p, hpi, rfl⟩ := Option.map_eq_some_iff.mp hi
          obtain ⟨r, hri⟩ : ∃ z, rows[i]? = some z := ⟨_, List.getElem?_eq_getElem (by rw [← hl]; exact (List.getElem?_eq_some_iff.mp hpi).1)⟩
          have eg : rows.getD i [] = r := by rw [List.getD_eq_getElem?_getD, hri] <;> rfl
          rw [eg]
          obtain ⟨l5, hb⟩ := hr5 r (List.mem_of_getElem? hri)
          have inner : EvL (tLc (iTup K (tVar 1)) (gName 2) tYes (tCB rStrB (tCons (tVar 2) tNil)) [2]) [some (.ref a), some (.ref p), none] H2 ((r.map numS).map V.str) := by
            have z := el_lcTu (K := K) (tl := tVar 1) (te := tCB rStrB (tCons (tVar 2) tNil)) (j := 2) (vs := [2]) (σ := [some (.ref a), some (.ref p), none]) (xs := r.map V.int) (fun i => V.str (numS (r.getD i 0))) (ev_var rfl) (ex_t (e1.trans e2) (hp i p r hpi hri)) (by rw [List.length_map]; omega) (fun _ => rfl) (fun j y H3 e3 hj => by
              rw [List.getElem?_map] at hj
              obtain ⟨n, hn, rfl⟩ := Option.map_eq_some_iff.mp hj
              have eg : r.getD j 0 = n := by rw [List.getD_eq_getElem?_getD, hn] <;> rfl
              rw [eg]
              exact ev_strI rfl (hb n (List.mem_of_getElem? hn)))
            rw [List.length_map, given_mapA (g := fun n => V.str (numS n)) (d := 0)] at z
            rw [List.map_map]
            exact z
          refine ev_jn (K := K) (k := 10) inner (fun q hq => ?_) ?_
          · obtain ⟨n, hn, rfl⟩ := List.mem_map.mp hq
            exact numS_len (hb n hn)
          · have q1 : (" " : Str).length = 1 := by decide +kernel
            rw [q1, List.length_map]
            omega)
        rw [List.length_map, hl, given_mapA (g := fun r => V.str (rowS r)) (d := [])] at z
        rw [List.map_map]
        exact z
      have lrow : ∀ p ∈ rows.map rowS, p.length ≤ 55 := fun p hp => by
        obtain ⟨r, hr, rfl⟩ := List.mem_map.mp hp
        exact rowS_len (hr5 r hr).1 (hr5 r hr).2
      have q3 : (" / " : Str).length = 3 := by decide +kernel
      have q8 : ("unsure " : Str).length = 7 := by decide +kernel
      have jl := join_len (y := " / ") lrow
      rw [q3, List.length_map] at jl
      have eu : ("unsure " : Str) = "unsure" ++ " " := by decide +kernel
      refine s_ret (ev_op ev_c (ev_jn (K := K) (k := 55) key lrow (by rw [q3, List.length_map]; omega)) (fun H2 e2 Q2 q2 => ⟨_, _, rfl, rfl, sz_of (by rw [q8]; omega), q2 H2 (Ex.refl _)⟩)) fun H2 e2 => ?_
      have kk := k H2 (e1.trans e2)
      have et : (WD.unsure rows).text = "unsure " ++ Txt.join " / " (rows.map rowS) := by
        rw [eu]
        rfl
      rw [et] at kk
      exact kk
end
end Hs
namespace Hs
open PySem PySem.Spec PyProof.Rows L2 Evl
/-! ### read deeds that are the same -/
theorem ns_flat {v : V} (h : NumOrStr v) : flatV v = true := by
  rcases h with ⟨n, rfl⟩ | ⟨s, rfl, _⟩ <;> rfl
theorem sm_flatsW {K : PySem.W.Frag} {H : Hp} {d : Nat} {a b : Addr} {xs : List V} (h1 : SqT K H a xs) (h2 : SqT K H b xs) (hf : ∀ x ∈ xs, flatV x = true) (hl : xs.length ≤ 15010) : Sm K H (d + 2) (.ref a) (.ref b) :=
  .inr ⟨a, b, xs, xs, rfl, rfl, .inr ⟨h1, h2⟩, rfl, hl, fun i x y hx hy => by
    rw [hx] at hy
    cases hy
    exact .inl ⟨rfl, hf x (List.mem_of_getElem? hx)⟩⟩
theorem sm_deedW {K : PySem.W.Frag} {H : Hp} {e : Nat} {a b : Addr} {d : WD} (ok : d.rok) (h1 : DeedV K H a d) (h2 : DeedV K H b d) : Sm K H (e + 4) (.ref a) (.ref b) := by
  cases d with
  | plain w xs =>
    refine sm_flatsW h1 h2 (fun x hx => ?_) (by rw [List.length_cons]; have := ok.2.1; omega)
    rcases List.mem_cons.mp hx with rfl | hx
    · rfl
    · exact ns_flat (ok.1 x hx)
  | unsure rows =>
    obtain ⟨c, ps, g1, g2, g3, g4⟩ := h1
    obtain ⟨c', ps', g1', g2', g3', g4'⟩ := h2
    refine .inr ⟨a, b, _, _, rfl, rfl, .inr ⟨g1, g1'⟩, rfl, by simp, fun i x y hx hy => ?_⟩
    match i, hx, hy with
    | 0, hx, hy =>
      cases hx
      cases hy
      exact .inl ⟨rfl, rfl⟩
    | 1, hx, hy =>
      cases hx
      cases hy
      have lr := ok.1
      refine .inr ⟨c, c', _, _, rfl, rfl, .inr ⟨g2, g2'⟩, by rw [List.length_map, List.length_map, g3, g3'], by rw [List.length_map]; omega, fun j x y hx hy => ?_⟩
      rw [List.getElem?_map] at hx hy
      obtain ⟨p, hp, rfl⟩ := Option.map_eq_some_iff.mp hx
      obtain ⟨q, hq, rfl⟩ := Option.map_eq_some_iff.mp hy
      obtain ⟨r, hr⟩ : ∃ r, rows[j]? = some r := ⟨_, List.getElem?_eq_getElem (by rw [← g3]; exact (List.getElem?_eq_some_iff.mp hp).1)⟩
      refine sm_flatsW (g4 j p r hp hr) (g4' j q r hq hr) (fun x hx => ?_) (by rw [List.length_map, ok.2 r (List.mem_of_getElem? hr)] <;> decide)
      obtain ⟨z, _, rfl⟩ := List.mem_map.mp hx
      rfl
    | i + 2, hx, _ => cases hx
def DD.rok : DD → Prop
  | .one d => d.rok
  | .many ds => ds.length ≤ 15001 ∧ ∀ d ∈ ds, d.rok
theorem sm_ddW {K : PySem.W.Frag} {H : Hp} {a b : Addr} {d : DD} (ok : d.rok) (h1 : DDV K H a d) (h2 : DDV K H b d) : Sm K H 6 (.ref a) (.ref b) := by
  cases d with
  | one d => exact sm_deedW (e := 2) ok h1 h2
  | many ds =>
    obtain ⟨c, ps, g1, g2, g3, g4⟩ := h1
    obtain ⟨c', ps', g1', g2', g3', g4'⟩ := h2
    refine .inr ⟨a, b, _, _, rfl, rfl, .inr ⟨g1, g1'⟩, rfl, by simp, fun i x y hx hy => ?_⟩
    match i, hx, hy with
    | 0, hx, hy =>
      cases hx
      cases hy
      exact .inl ⟨rfl, rfl⟩
    | 1, hx, hy =>
      cases hx
      cases hy
      have lr := ok.1
      refine .inr ⟨c, c', _, _, rfl, rfl, .inr ⟨g2, g2'⟩, by rw [List.length_map, List.length_map, g3, g3'], by rw [List.length_map]; omega, fun j x y hx hy => ?_⟩
      rw [List.getElem?_map] at hx hy
      obtain ⟨p, hp, rfl⟩ := Option.map_eq_some_iff.mp hx
      obtain ⟨q, hq, rfl⟩ := Option.map_eq_some_iff.mp hy
      obtain ⟨r, hr⟩ : ∃ r, ds[j]? = some r := ⟨_, List.getElem?_eq_getElem (by rw [← g3]; exact (List.getElem?_eq_some_iff.mp hp).1)⟩
      exact sm_deedW (e := 0) (ok.2 r (List.mem_of_getElem? hr)) (g4 j p r hp hr) (g4' j q r hq hr)
    | i + 2, hx, _ => cases hx
/-- what a plain text tells -/
theorem rdText_rok {t : Str} (hA : Asc t) {dd : DD} (h : rdText t = .inr dd) : dd.rok := by
  obtain ⟨hw, hn⟩ := asc_split (y := "\n") hA (by decide +kernel)
  unfold rdText at h
  revert h
  generalize Txt.split t "\n" = rows at hw hn ⊢
  intro h
  cases hf : rdFrom rows with
  | inl b =>
    rw [hf] at h
    cases h
  | inr z =>
    obtain ⟨d2, n⟩ := z
    rw [hf] at h
    have h : (if n < rows.length then Sum.inl n else (Sum.inr d2 : Sum Nat DD)) = .inr dd := h
    split at h
    · cases h
    · injection h with h
      subst h
      cases rows with
      | nil => cases hf
      | cons r0 rest =>
        have hA0 := hw r0 List.mem_cons_self
        by_cases hk : ∃ k : Nat, manyOf (Txt.split r0 " ") = some (k : Int)
        · obtain ⟨k, hk⟩ := hk
          rw [rdFrom_many hk] at hf
          cases hs : rdSome (rest.take k) 1 with
          | inl b =>
            rw [hs] at hf
            cases hf
          | inr ds =>
            rw [hs] at hf
            have hf : (if rest.length < k then Sum.inl (rest.length + 1) else (Sum.inr (DD.many ds, 1 + k) : Sum Nat (DD × Nat))) = .inr (d2, n) := hf
            split at hf
            · cases hf
            · cases hf
              have hds := rdSome_inr hs
              refine ⟨?_, fun d hd => ?_⟩
              · have z := congrArg List.length hds
                rw [List.length_map, List.length_map, List.length_take] at z
                rw [List.length_cons] at hn
                omega
              · have z : some d ∈ (rest.take k).map rdOne := by
                  rw [hds]
                  exact List.mem_map_of_mem hd
                obtain ⟨r, hr, he⟩ := List.mem_map.mp z
                exact (rdOne_rok (hw r (List.mem_cons_of_mem _ (List.mem_of_mem_take hr))) he).1
        · rw [rdFrom_one fun k z => hk ⟨k, z⟩] at hf
          cases hr : rdOne r0 with
          | none =>
            rw [hr] at hf
            cases hf
          | some d =>
            rw [hr] at hf
            cases hf
            exact (rdOne_rok hA0 hr).1
/-! ### the texts of drawn deeds are plain -/
theorem numS_asc {n : Int} : ∀ c ∈ TL.tl (numS n), c < 128 := fun c hc => by
  by_cases h : c < 128
  · exact h
  · exact absurd hc (numS_free (.inr (.inl (by omega))))
theorem thS_asc {v : V} (h : ThOk v) : ∀ c ∈ TL.tl (thS v), c < 128 := by
  rcases h with ⟨n, rfl, hn⟩ | ⟨x, rfl, _, hx, _⟩
  · exact numS_asc
  · show ∀ c ∈ TL.tl (if x = "" then ("-" : Str) else x), c < 128
    split
    · decide +kernel
    · exact hx
theorem join_asc {s : Str} {ps : List Str} (hs : ∀ c ∈ TL.tl s, c < 128) (hp : ∀ p ∈ ps, ∀ c ∈ TL.tl p, c < 128) : ∀ c ∈ TL.tl (Txt.join s ps), c < 128 := by
  rw [TL.join_eq, TL.tl_join]
  have key : ∀ qs : List (List Nat), (∀ q ∈ qs, ∀ c ∈ q, c < 128) → ∀ c ∈ TL.joinL (TL.tl s) qs, c < 128 := by
    intro qs
    induction qs with
    | nil => intro _ c hc; cases hc
    | cons q r ih =>
      intro h c hc
      cases r with
      | nil => exact h q List.mem_cons_self c hc
      | cons q2 r2 =>
        have e : TL.joinL (TL.tl s) (q :: q2 :: r2) = q ++ (TL.tl s ++ TL.joinL (TL.tl s) (q2 :: r2)) := rfl
        rw [e] at hc
        rcases List.mem_append.mp hc with hc | hc
        · exact h q List.mem_cons_self c hc
        · rcases List.mem_append.mp hc with hc | hc
          · exact hs c hc
          · exact ih (fun z hz => h z (List.mem_cons_of_mem _ hz)) c hc
  refine key _ fun q hq => ?_
  obtain ⟨p, hp', rfl⟩ := List.mem_map.mp hq
  exact hp p hp'
theorem text_asc {d : WD} (ok : d.ok) : ∀ c ∈ TL.tl d.text, c < 128 := by
  cases d with
  | plain w xs =>
    refine join_asc (by decide +kernel) fun p hp => ?_
    obtain ⟨x, hx, rfl⟩ := List.mem_map.mp hp
    exact thS_asc (ok.2.2.1 x hx)
  | unsure rows =>
    have e : TL.tl (WD.unsure rows).text = TL.tl ("unsure" ++ " " : Str) ++ TL.tl (Txt.join " / " (rows.map rowS)) := TL.tl_append _ _
    rw [e]
    intro c hc
    rcases List.mem_append.mp hc with hc | hc
    · have z : ∀ c ∈ TL.tl ("unsure" ++ " " : Str), c < 128 := by decide +kernel
      exact z c hc
    · refine join_asc (by decide +kernel) (fun p hp => ?_) c hc
      obtain ⟨r, hr, rfl⟩ := List.mem_map.mp hp
      refine join_asc (by decide +kernel) fun p hp => ?_
      obtain ⟨n, _, rfl⟩ := List.mem_map.mp hp
      exact numS_asc
/-! ### lengths of texts taken apart and put together -/
def sumL (ws : List Str) : Nat := (ws.map fun w => w.length + 1).sum
theorem sumL_cons (w : Str) (ws : List Str) : sumL (w :: ws) = w.length + 1 + sumL ws := rfl
theorem sumL_app (a b : List Str) : sumL (a ++ b) = sumL a + sumL b := by
  unfold sumL
  rw [List.map_append, List.sum_append]
theorem sumL_parts (i : Nat) (ws : List Str) : sumL (ws.take i) + sumL (ws.drop i) = sumL ws := by
  rw [← sumL_app, List.take_append_drop]
theorem sumL_mem {w : Str} {ws : List Str} (h : w ∈ ws) : w.length + 1 ≤ sumL ws := by
  induction ws with
  | nil => cases h
  | cons a r ih =>
    rw [sumL_cons]
    rcases List.mem_cons.mp h with rfl | h
    · omega
    · have := ih h
      omega
theorem join_sum {s : Str} (hs : s.length ≤ 1) (ps : List Str) : (Txt.join s ps).length ≤ sumL ps := by
  rw [TL.join_eq, TL.len_tl, TL.tl_join]
  rw [TL.len_tl] at hs
  induction ps with
  | nil => exact Nat.zero_le _
  | cons p r ih =>
    rw [sumL_cons]
    cases r with
    | nil =>
      show (TL.tl p).length ≤ _
      rw [← TL.len_tl]
      omega
    | cons q r2 =>
      have e : TL.joinL (TL.tl s) ((p :: q :: r2).map TL.tl) = TL.tl p ++ (TL.tl s ++ TL.joinL (TL.tl s) ((q :: r2).map TL.tl)) := rfl
      rw [e, List.length_append, List.length_append, ← TL.len_tl]
      omega
theorem split_sum {x y : Str} (hy : y.length = 1) : sumL (Txt.split x y) = x.length + 1 := by
  have e := tl_split x y
  have hne := split_ne x y
  rw [TL.len_tl, e]
  rw [TL.len_tl] at hy
  revert hne
  generalize Txt.split x y = ps
  intro hne
  clear e
  induction ps with
  | nil => exact absurd rfl hne
  | cons p r ih =>
    cases r with
    | nil =>
      show p.length + 1 + 0 = (TL.tl p).length + 1
      rw [← TL.len_tl]
    | cons q r2 =>
      have e : TL.joinL (TL.tl y) ((p :: q :: r2).map TL.tl) = TL.tl p ++ (TL.tl y ++ TL.joinL (TL.tl y) ((q :: r2).map TL.tl)) := rfl
      rw [e, List.length_append, List.length_append, ← TL.len_tl, sumL_cons, ih (by simp)]
      omega
end Hs
namespace Hs
open PySem PySem.Spec PyProof.Rows L2 Evl
/-- a text times nought or one -/
abbrev rMulS : R2 := fun x y H Q => ∃ (a : Str) (k : Bool), x = .str a ∧ y = .int (if k then 1 else 0) ∧ Q (.str (if k then a else "")) H
theorem op_mulS {X : Cx} : OpR X (binaryOp .Mult) rMulS := by
  intro pins s σ H x y v u Q I rx ry h
  obtain ⟨a, k, rfl, rfl, q⟩ := h
  obtain ⟨t, rfl⟩ := rx
  obtain ⟨t', rfl⟩ := ry
  cases k with
  | false =>
    exact PySem.P.mul_str_none (by decide) (by decide) ⟨.str "", H, I.tok _, ⟨_, rfl⟩, q⟩
  | true =>
    refine PySem.P.mul_str (by decide) (fun _ z => by cases z) (fun _ z => by cases z) ?_
    exact ⟨.str a, H, I, ⟨_, rfl⟩, q⟩
end Hs
namespace Hs
open PySem PySem.Spec PyProof.Rows L2 Evl
/-- plain signs, of a length -/
def AscN (n : Nat) (x : Str) : Prop := (∀ c ∈ TL.tl x, c < 128) ∧ x.length ≤ n
theorem jn_fit {s : Str} {ys : List Str} (hs : s.length ≤ 1) (hb : sumL ys ≤ 100000) : (List.map (fun x => x.length) ys).sum + ys.length * s.length ≤ 16777216 := by
  have key : ∀ zs : List Str, (List.map (fun x : Str => x.length) zs).sum + zs.length = sumL zs := by
    intro zs
    induction zs with
    | nil => rfl
    | cons z r ih =>
      rw [sumL_cons, ← ih, List.map_cons, List.sum_cons, List.length_cons]
      omega
  have h1 := key ys
  have h2 : ys.length * s.length ≤ ys.length * 1 := Nat.mul_le_mul_left _ hs
  omega
theorem atI_getA {α : Type} {xs : List α} {v : Int} (h0 : 0 ≤ v) (h : v < (xs.length : Int)) : ∃ x, atI xs v = some x ∧ x ∈ xs := by
  have hi : v.toNat < xs.length := by omega
  have q := atI_nat (xs := xs) (j := v.toNat) (List.getElem?_eq_getElem hi)
  rw [show ((v.toNat : Nat) : Int) = v by omega] at q
  exact ⟨_, q, List.getElem_mem hi⟩
theorem q_teS {te : TE} {g : TG} {tz : TS} {D : Ends} {σ : L2.St} {H : Hp} (h : te σ H (fun v H1 => g v σ H1 (fun σ' H2 => tz D σ' H2))) : tSeq (tAsg te g) tz D σ H := h
theorem ev_slS {te : TE} {tl th : TO} {σ : L2.St} {H : Hp} {z : Str} {lo hi : Option Int} (h : Ev te σ H (.str z)) (h1 : EvO tl σ H lo) (h2 : EvO th σ H hi) (hz : z.length ≤ 50000) : Ev (tSl rSlS te tl th) σ H (.str (cutS z lo hi)) := fun H1 e Q q =>
  h H1 e _ fun H2 e2 => h1 H2 (e.trans e2) _ fun H3 e3 => h2 H3 ((e.trans e2).trans e3) _ fun H4 e4 => ⟨z, rfl, sz_of (by omega), q H4 ((e2.trans e3).trans e4)⟩
theorem cutS_mem {z : Str} {lo hi : Option Int} {c : Nat} (h : c ∈ TL.tl (cutS z lo hi)) : c ∈ TL.tl z := by
  have e : TL.tl (cutS z lo hi) = ((z.cps.toList.drop (HT.sIx z.length 0 lo)).take (HT.sIx z.length z.length hi - HT.sIx z.length 0 lo)) := by
    show ((((z.cps.toList.drop (HT.sIx z.length 0 lo)).take (HT.sIx z.length z.length hi - HT.sIx z.length 0 lo)).toArray).toList) = _
    simp
  rw [e] at h
  exact List.mem_of_mem_drop (List.mem_of_mem_take h)
abbrev rInt1 : List V → Hp → VK → Prop := fun xs H Q => (∃ i, xs = [V.int i] ∧ Q (V.int i) H) ∨ ∃ k, xs = [V.bl k] ∧ Q (V.int (if k = true then 1 else 0)) H
theorem ev_intb {te : TE} {σ : L2.St} {H : Hp} {k : Bool} (h : Ev te σ H (.bl k)) : Ev (tCB rInt1 (tCons te tNil)) σ H (.int (if k = true then 1 else 0)) := fun H1 e Q q => h H1 e _ fun H2 e2 => .inr ⟨k, rfl, q H2 e2⟩
theorem ev_jnM {K : PySem.W.Frag} {te : TE} {σ : L2.St} {H : Hp} {s : Str} {ys : List Str} (h : EvL te σ H (ys.map V.str)) (hs : s.length ≤ 1) (hb : sumL ys ≤ 100000) : Ev (tJnK K (tC (.str s)) te) σ H (.str (Txt.join s ys)) := fun H1 e Q q =>
  ⟨⟨_, rfl⟩, h H1 e _ fun p H2 n2 e2 h2 => ⟨s, p, ys, rfl, rfl, .inl (sq_of h2), jn_fit hs hb, q H2 e2⟩⟩
theorem sumL_set {ws : List Str} {i : Nat} {w r : Str} (h : ws[i]? = some r) : sumL (ws.set i w) + (r.length + 1) = sumL ws + (w.length + 1) := by
  induction ws generalizing i with
  | nil => cases h
  | cons a t ih =>
    cases i with
    | zero =>
      cases h
      rw [List.set_cons_zero, sumL_cons, sumL_cons]
      omega
    | succ i =>
      have := ih (i := i) h
      rw [List.set_cons_succ, sumL_cons, sumL_cons]
      omega
theorem sumL_one (w : Str) : sumL [w] = w.length + 1 := rfl
theorem cut_pre {ws : List Str} {i : Nat} (h : i ≤ ws.length) : cutV (ws.map V.str) none (some (i : Int)) = (ws.take i).map V.str := by
  unfold cutV
  rw [HT.sIx_nat, HT.sIx_none, List.drop_zero, Nat.sub_zero, List.length_map, Nat.min_eq_left h, List.map_take]
theorem cut_suf {ws : List Str} {i : Nat} : cutV (ws.map V.str) (some (i : Int)) none = (ws.drop i).map V.str := by
  unfold cutV
  rw [HT.sIx_nat, HT.sIx_none, List.length_map]
  by_cases h : i ≤ ws.length
  · rw [Nat.min_eq_left h, ← List.map_drop, List.take_of_length_le (by rw [List.length_map, List.length_drop]; exact Nat.le_refl _)]
  · rw [Nat.min_eq_right (by omega), Nat.sub_self, List.take_zero, List.drop_eq_nil_of_le (by omega)]
    rfl
theorem asc_join {s : Str} {ys : List Str} {N : Nat} (hs : s.length ≤ 1) (hc : ∀ c ∈ TL.tl s, c < 128) (hy : ∀ y ∈ ys, ∀ c ∈ TL.tl y, c < 128) (hb : sumL ys ≤ N) : AscN N (Txt.join s ys) := ⟨join_asc hc hy, Nat.le_trans (join_sum hs ys) hb⟩
def oddL : List Str := ["", "0", "00", "-0", "07", "1234567890", "-", "/", "many", "lamp", "9", "rg", "many 1", "unsure"]
theorem odd_ok : ∀ w ∈ oddL, (∀ c ∈ TL.tl w, c < 128) ∧ w.length ≤ 10 := by decide +kernel
section
variable {P : Program} {w : World} {K : PySem.W.Frag} {mg : Str → Option Value} {base : Heap} {f : Addr} {fd : FuncData}
def spSpoil : Sp := fun vs H Q _ => ∃ (b l : Addr) (ns : List Int) (n m : Nat) (t : Str), vs = [.ref b, .str t] ∧ BagAt H b l ns n ∧ n < 700000 ∧ AscN m t ∧ m ≤ 7000 ∧
  ∀ (s : Str) (H' : Hp), AscN (2 * m + 20) s → BagAt H' b l ns (n + 8) → But H H' b → Q (.str s) H'
abbrev sSpoil : Stmt := top 27
theorem scSpoil : FnScope ["_law_bag_here", "_law_text", "_law_at", "_law_sign", "_law_way", "_law_rows", "_law_k", "_law_words", "_law_spot", "_law_odd"] ["_law_bag_here", "_law_text"] (defScope sSpoil) := ⟨rfl, rfl, rfl, by decide +kernel, rfl, by decide +kernel, by decide +kernel⟩
theorem ok_spoil (F : FnP K "_law_spoilt" sSpoil f fd) (O__law_pull : Own P w K mg base 1 "_law_pull" ["_law_bag_here", "_law_many"] spPull) (O__law_one : Own P w K mg base 2 "_law_one" ["_law_bag_here", "_law_some"] (spOne K)) (g_len : mg "len" = none) (g_int : mg "int" = none) : FnOk P w K mg base CX0 3 f fd ["_law_bag_here", "_law_text"] spSpoil := by
  have nd := scSpoil.nd
  refine F.ok scSpoil (fun vs H Q E h => ?_) (fun cdv A outer s H vs Q E hr h => ⟨_, PSs.nox (pss_cons (ps_set (i := 2) nd rfl (.inl rfl) (Hs.pe_own O__law_pull hr (by first | decide | omega) (by rfl) (pa_cons (pv 0) (pa_cons (pe_op op_add (pe_callB call_len_str (by rfl) g_len PySem.boot_len (pa_cons (pv 1) pa_nil)) pe_int) pa_nil))))
  (pss_cons (ps_set (i := 3) nd rfl (.inl rfl) (pe_ix (r := rIxS) ix_str pe_str (Hs.pe_own O__law_pull hr (by first | decide | omega) (by rfl) (pa_cons (pv 0) (pa_cons pe_int pa_nil))) (fun _ _ => rfl)))
  (pss_cons (ps_set (i := 4) nd rfl (.inl rfl) (Hs.pe_own O__law_pull hr (by first | decide | omega) (by rfl) (pa_cons (pv 0) (pa_cons pe_int pa_nil))))
  (pss_cons (ps_if (pt_cmpR op_lt (pv 4) pe_int (nomark _)) (pss_one (ps_ret (pe_op op_add_str (pe_op op_add_str (pe_slice sl_str (pv 1) po_none (po_some (pv 2))) (pe_op Hs.op_mulS (pv 3) (pe_callTy call_int1 (by rfl) g_int (by decide +kernel) (pa_cons (pe_cmpR op_ne (pv 4) pe_int (nomark _)) pa_nil)))) (pe_slice sl_str (pv 1) (po_some (pe_op op_add (pv 2) (pe_callTy call_int1 (by rfl) g_int (by decide +kernel) (pa_cons (pe_cmpR op_gt (pv 4) pe_int (nomark _)) pa_nil)))) po_none)))) pss_nil)
  (pss_cons (ps_set (i := 5) nd rfl (.inl rfl) (pe_split (pv 1) pe_str))
  (pss_cons (ps_set (i := 6) nd rfl (.inl rfl) (Hs.pe_own O__law_pull hr (by first | decide | omega) (by rfl) (pa_cons (pv 0) (pa_cons (pe_callB (r := Evl.rLenS K) call_len_seq (by rfl) g_len PySem.boot_len (pa_cons (pv 5) pa_nil)) pa_nil))))
  (pss_cons (ps_if (pt_cmpR op_eq (pv 4) pe_int (nomark _)) (pss_one (ps_ret (pe_join pe_str (pe_op op_cat (pe_slice sl_list (pv 5) po_none (po_some (pv 6))) (pe_slice sl_list (pv 5) (po_some (pe_op op_add (pv 6) pe_int)) po_none))))) pss_nil)
  (pss_cons (ps_if (pt_cmpR op_eq (pv 4) pe_int (nomark _)) (pss_one (ps_ret (pe_join pe_str (pe_op op_cat (pe_op op_cat (pe_slice sl_list (pv 5) po_none (po_some (pv 6))) (pe_lst (pa_cons (pe_ix (r := rIxL K) ix_list (pv 5) (pv 6) (fun _ _ => rfl)) pa_nil))) (pe_slice sl_list (pv 5) (po_some (pv 6)) po_none))))) pss_nil)
  (pss_cons (ps_set (i := 7) nd rfl (.inl rfl) (pe_split (pe_ix (r := rIxL K) ix_list (pv 5) (pv 6) (fun _ _ => rfl)) pe_str))
  (pss_cons (ps_set (i := 8) nd rfl (.inl rfl) (Hs.pe_own O__law_pull hr (by first | decide | omega) (by rfl) (pa_cons (pv 0) (pa_cons (pe_callB (r := Evl.rLenS K) call_len_seq (by rfl) g_len PySem.boot_len (pa_cons (pv 7) pa_nil)) pa_nil))))
  (pss_cons (ps_set (i := 9) nd rfl (.inl rfl) (pe_lst (pa_cons pe_str (pa_cons pe_str (pa_cons pe_str (pa_cons pe_str (pa_cons pe_str (pa_cons pe_str (pa_cons pe_str (pa_cons pe_str (pa_cons pe_str (pa_cons pe_str (pa_cons pe_str (pa_cons pe_str (pa_cons pe_str (pa_cons pe_str pa_nil))))))))))))))))
  (pss_cons (ps_asg (pe_join pe_str (pe_op op_cat (pe_op op_cat (pe_slice sl_list (pv 7) po_none (po_some (pv 8))) (pe_lst (pa_cons (Hs.pe_own O__law_one hr (by first | decide | omega) (by rfl) (pa_cons (pv 0) (pa_cons (pv 9) pa_nil))) pa_nil))) (pe_slice sl_list (pv 7) (po_some (pe_op op_add (pv 8) (pe_callTy call_int1 (by rfl) g_int (by decide +kernel) (pa_cons (pe_cmpR op_gt (pv 4) pe_int (nomark _)) pa_nil)))) po_none))) (pg_sub (pv 5) (pv 6) set_list))
  (pss_one (ps_ret (pe_join pe_str (pv 5)))))))))))))))), ?_⟩)
  · obtain ⟨b, l, ns, n, m, t, rfl, _⟩ := h
    rfl
  · obtain ⟨b, l, ns, n, m, t, rfl, B, hn, ⟨hA, hm⟩, hm7, k⟩ := h
    have hl : t.length ≤ 7000 := Nat.le_trans hm hm7
    have big : ∀ {x : Int}, x ≤ 100000 → x < 2 ^ 200 := fun h => Int.lt_of_le_of_lt h (by decide)
    refine q_call (vs := [.ref b, .int ((t.length : Int) + 1)]) (ea_cons (ev_var rfl) (ea_cons (ev_op (x := .int (t.length : Int)) (y := .int 1) (fun H1 e Q q => ⟨_, rfl, t, rfl, sz_of (by omega), q H1 (Ex.refl _)⟩) ev_c fun H1 _ Q q => ⟨_, _, rfl, rfl, q H1 (Ex.refl _)⟩) ea_nil)) fun H1 e1 => ⟨b, l, ns, n, _, rfl, B.ext e1 (Nat.le_refl _), by omega, by omega, big (by omega), fun at_ H2 p1 q1 B2 k2 => ?_⟩
    have kk2 : But H H2 b := (But.of e1).trans k2
    refine q_te ⟨_, rfl, b, l, ns, n + 1, 10, rfl, B2, by omega, by decide, by decide, fun sv H3 p2 q2 B3 k3 => ?_⟩
    obtain ⟨sc, hsc, hscm⟩ := atI_getA (xs := (" 0-179/x\n." : Str).cps.toList) p2 (by
      have e : (" 0-179/x\n." : Str).cps.toList.length = 10 := by decide +kernel
      rw [e]
      exact q2)
    have hsc128 : sc < 128 := by
      have z : ∀ c ∈ (" 0-179/x\n." : Str).cps.toList, c < 128 := by decide +kernel
      exact z sc hscm
    refine ⟨_, sv, sc, rfl, rfl, by decide +kernel, hsc, ?_⟩
    have kk3 : But H H3 b := kk2.trans k3
    refine q_call (ea_cons (ev_var rfl) (ea_cons ev_c ea_nil)) fun H4 e4 => ⟨b, l, ns, n + 1 + 1, 7, rfl, B3.ext e4 (Nat.le_refl _), by omega, by decide, by decide, fun wy H5 p5 q5 B5 k5 => ?_⟩
    have kk5 : But H H5 b := (kk3.ex e4).trans k5
    have hsg : ∀ c ∈ TL.tl (⟨#[sc]⟩ : Str), c < 128 := fun c hc => by
      rw [List.mem_singleton.mp (show c ∈ [sc] from hc)]
      exact hsc128
    have hsl : (⟨#[sc]⟩ : Str).length = 1 := rfl
    clear hsc hscm k2 k3 k5 kk2 kk3 B B2 B3 e1 e4
    generalize (⟨#[sc]⟩ : Str) = sg at hsg hsl ⊢
    by_cases h3 : wy < 3
    · refine q_when (b := true) (et_is (et_test (ev_op (ev_var (v := .int wy) rfl) ev_c fun H1 _ Q q => ⟨_, _, rfl, rfl, q H1 (Ex.refl _)⟩)) (decide_eq_true h3)) (fun _ H6 e6 => ?_) (fun z => Bool.noConfusion z)
      have c1 := ev_slS (σ := [some (.ref b), some (.str t), some (.int at_), some (.str sg), some (.int wy), none, none, none, none, none]) (H := H6) (te := tVar 1) (tl := tNoPart) (th := tPart (tVar 2)) (ev_var rfl) eo_none (eo_some (ev_var rfl)) (by omega)
      have c2 : Ev (tOp rMulS (tVar 3) (tCB rInt1 (tCons (tOp rNe (tVar 4) (tC (V.int 1))) tNil))) [some (.ref b), some (.str t), some (.int at_), some (.str sg), some (.int wy), none, none, none, none, none] H6 (.str (if (!decide (V.int wy = .int 1)) = true then sg else "")) :=
        ev_op (ev_var rfl) (ev_intb (ev_op (ev_var (v := .int wy) rfl) ev_c (rv_ne rfl))) fun H1 _ Q q => ⟨sg, _, rfl, rfl, q H1 (Ex.refl _)⟩
      have c3 := ev_slS (σ := [some (.ref b), some (.str t), some (.int at_), some (.str sg), some (.int wy), none, none, none, none, none]) (H := H6) (te := tVar 1) (th := tNoPart) (tl := tPart (tOp (rI0 fun i j => V.int (i + j)) (tVar 2) (tCB rInt1 (tCons (tOp (rI0 fun i j => V.bl (decide (j < i))) (tVar 4) (tC (V.int 0))) tNil)))) (ev_var rfl) (eo_some (ev_op (z := .int (at_ + (if decide (0 < wy) = true then 1 else 0))) (ev_var (v := .int at_) rfl) (ev_intb (ev_op (z := .bl (decide (0 < wy))) (ev_var (v := .int wy) rfl) ev_c fun H1 _ Q q => ⟨_, _, rfl, rfl, q H1 (Ex.refl _)⟩)) fun H1 _ Q q => ⟨_, _, rfl, rfl, q H1 (Ex.refl _)⟩)) eo_none (by omega)
      have l1 := cutS_length t none (some at_)
      have l3 := cutS_length t (some (at_ + (if decide (0 < wy) = true then 1 else 0))) none
      have l2 : (if (!decide (V.int wy = .int 1)) = true then sg else ("" : Str)).length ≤ 1 := by
        split
        · omega
        · decide +kernel
      have a2 : ∀ c ∈ TL.tl (if (!decide (V.int wy = .int 1)) = true then sg else ("" : Str)), c < 128 := by
        split
        · exact hsg
        · decide +kernel
      generalize (if (!decide (V.int wy = .int 1)) = true then sg else ("" : Str)) = s2 at c2 l2 a2
      have a1 : ∀ c ∈ TL.tl (cutS t none (some at_)), c < 128 := fun c hc => hA c (cutS_mem hc)
      have a3 : ∀ c ∈ TL.tl (cutS t (some (at_ + (if decide (0 < wy) = true then 1 else 0))) none), c < 128 := fun c hc => hA c (cutS_mem hc)
      generalize cutS t none (some at_) = s1 at c1 l1 a1
      generalize cutS t (some (at_ + (if decide (0 < wy) = true then 1 else 0))) none = s3 at c3 l3 a3
      have la : ∀ x y : Str, (x ++ y).length = x.length + y.length := fun x y => by
        rw [TL.len_tl, TL.tl_append, List.length_append, ← TL.len_tl, ← TL.len_tl]
      refine s_ret (ev_op (z := .str (s1 ++ s2 ++ s3)) (ev_op (z := .str (s1 ++ s2)) c1 c2 fun H1 _ Q q => ⟨_, _, rfl, rfl, sz_of (by omega), q H1 (Ex.refl _)⟩) c3 fun H1 _ Q q => ⟨_, _, rfl, rfl, sz_of (by rw [la]; omega), q H1 (Ex.refl _)⟩) fun H7 e7 => k _ H7 ⟨fun c hc => ?_, by rw [la, la]; omega⟩ (B5.ext (e6.trans e7) (by omega)) (kk5.ex (e6.trans e7))
      rw [TL.tl_append, TL.tl_append] at hc
      rcases List.mem_append.mp hc with hc | hc
      · rcases List.mem_append.mp hc with hc | hc
        · exact a1 c hc
        · exact a2 c hc
      · exact a3 c hc
    · refine q_when (b := false) (et_is (et_test (ev_op (ev_var (v := .int wy) rfl) ev_c fun H1 _ Q q => ⟨_, _, rfl, rfl, q H1 (Ex.refl _)⟩)) (decide_eq_false h3)) (fun z => Bool.noConfusion z) (fun _ H6 e6 => ?_)
      have q1 : ("\n" : Str).length = 1 := by decide +kernel
      have q2 : (" " : Str).length = 1 := by decide +kernel
      have a1 : ∀ c ∈ TL.tl ("\n" : Str), c < 128 := by decide +kernel
      have a2 : ∀ c ∈ TL.tl (" " : Str), c < 128 := by decide +kernel
      have hAt : Asc t := ⟨hA, by omega⟩
      obtain ⟨hw, hn2⟩ := asc_split (y := "\n") hAt (by decide +kernel)
      have hne := split_ne t "\n"
      have hsum := split_sum (x := t) q1
      refine q_asgL (el_split (ev_var rfl) (by omega) (by decide +kernel)) fun W H7 nW e7 hW => ?_
      revert hW
      generalize Txt.split t "\n" = rows at hw hn2 hne hsum ⊢
      intro hW
      have hrl : 0 < rows.length := List.length_pos_iff.mpr hne
      have B7 := B5.ext (e6.trans e7) (Nat.le_refl _)
      have nWb : W ≠ b := bag_ne (B5.ext e6 (Nat.le_refl _)) nW
      have nWl : W ≠ l := Ne.symm (ne_of_none (B5.ext e6 (Nat.le_refl _)).ls nW)
      have kk6 := kk5.ex e6
      have hHW : H W = none := But.fresh kk6 (B5.ext e6 (Nat.le_refl _)) nW
      refine q_call (ea_cons (ev_var rfl) (ea_cons (ev_lenL (K := K) (ev_var (i := 5) rfl) (sq_of hW)) ea_nil)) fun H8 e8 => ⟨b, l, ns, n + 1 + 1 + 1, _, rfl, B7.ext e8 (Nat.le_refl _), by omega, by rw [List.length_map]; omega, big (by rw [List.length_map]; omega), fun kv H9 p9 q9 B9 k9 => ?_⟩
      have kk9 : But H H9 b := ((kk6.ex e7).ex e8).trans k9
      have hW9 : H9 W = some (.lst (rows.map V.str)) := k9 _ _ (e8 _ _ hW) nWb
      rw [List.length_map] at q9
      obtain ⟨kn, rfl⟩ : ∃ kn : Nat, kv = (kn : Int) := ⟨kv.toNat, (Int.toNat_of_nonneg p9).symm⟩
      have hkn : kn < rows.length := by omega
      obtain ⟨rk, hrk⟩ : ∃ r, rows[kn]? = some r := ⟨_, List.getElem?_eq_getElem hkn⟩
      have hrkm := List.mem_of_getElem? hrk
      have hpt := sumL_parts kn rows
      have hrA : ∀ r ∈ rows, ∀ c ∈ TL.tl r, c < 128 := fun r hr => (hw r hr).1
      have hrkl := sumL_mem hrkm
      have sh : ∀ i, sumL (rows.drop i) ≤ sumL rows := fun i => by
        have := sumL_parts i rows
        omega
      by_cases h3' : wy = 3
      · refine q_when (b := true) (et_is (et_test (ev_op (ev_var (v := .int wy) rfl) ev_c (rv_eq rfl))) (by simp [h3'])) (fun _ H10 e10 => ?_) (fun z => Bool.noConfusion z)
        have hW10 := e10 _ _ hW9
        have s1 := el_sl (K := K) (σ := [some (.ref b), some (.str t), some (.int at_), some (.str sg), some (.int wy), some (.ref W), some (.int (kn : Int)), none, none, none]) (H := H10) (te := tVar 5) (tl := tNoPart) (th := tPart (tVar 6)) (ev_var rfl) eo_none (eo_some (ev_var rfl)) (sq_of hW10)
        have s2 := el_sl (K := K) (σ := [some (.ref b), some (.str t), some (.int at_), some (.str sg), some (.int wy), some (.ref W), some (.int (kn : Int)), none, none, none]) (H := H10) (te := tVar 5) (th := tNoPart) (tl := tPart (tOp (rI0 fun i j => V.int (i + j)) (tVar 6) (tC (V.int 1)))) (lo := some ((kn + 1 : Nat) : Int)) (ev_var rfl) (eo_some (ev_op (ev_var (v := .int (kn : Int)) rfl) ev_c fun H1 _ Q q => ⟨_, _, rfl, rfl, q H1 (Ex.refl _)⟩)) eo_none (sq_of hW10)
        rw [cut_pre (by omega)] at s1
        rw [cut_suf] at s2
        have s3 := el_catL s1 s2 (by rw [List.length_map, List.length_map, List.length_take, List.length_drop]; omega)
        rw [← List.map_append] at s3
        have hb : sumL (rows.take kn ++ rows.drop (kn + 1)) ≤ m + 1 := by
          rw [sumL_app]
          have e : sumL (rows.drop (kn + 1)) ≤ sumL (rows.drop kn) := by
            have z := sumL_parts 1 (rows.drop kn)
            rw [List.drop_drop] at z
            omega
          omega
        refine s_ret (ev_jnM (K := K) s3 (by omega) (by omega)) fun H11 e11 => k _ H11 (asc_join (by omega) a1 (fun y hy => ?_) (by omega)) (B9.ext (e10.trans e11) (by omega)) (kk9.ex (e10.trans e11))
        rcases List.mem_append.mp hy with hy | hy
        · exact hrA y (List.mem_of_mem_take hy)
        · exact hrA y (List.mem_of_mem_drop hy)
      · refine q_when (b := false) (et_is (et_test (ev_op (ev_var (v := .int wy) rfl) ev_c (rv_eq rfl))) (by simp [h3'])) (fun z => Bool.noConfusion z) (fun _ H10 e10 => ?_)
        have hW10 := e10 _ _ hW9
        have B10 := B9.ext e10 (Nat.le_refl _)
        have kk10 := kk9.ex e10
        have ixr : ∀ {σ : L2.St} {H' : Hp}, σ[5]? = some (some (V.ref W)) → σ[6]? = some (some (V.int (kn : Int))) → H' W = some (.lst (rows.map V.str)) → Ev (tOp (rIxL K) (tVar 5) (tVar 6)) σ H' (.str rk) := fun h5 h6 hw => ev_op (ev_var h5) (ev_var h6) (rv_ixL (K := K) (sq_of hw) (atI_nat (by rw [List.getElem?_map, hrk] <;> rfl)))
        by_cases h4 : wy = 4
        · refine q_when (b := true) (et_is (et_test (ev_op (ev_var (v := .int wy) rfl) ev_c (rv_eq rfl))) (by simp [h4])) (fun _ H11 e11 => ?_) (fun z => Bool.noConfusion z)
          have hW11 := e11 _ _ hW10
          have s1 := el_sl (K := K) (σ := [some (.ref b), some (.str t), some (.int at_), some (.str sg), some (.int wy), some (.ref W), some (.int (kn : Int)), none, none, none]) (H := H11) (te := tVar 5) (tl := tNoPart) (th := tPart (tVar 6)) (ev_var rfl) eo_none (eo_some (ev_var rfl)) (sq_of hW11)
          have s2 := el_sl (K := K) (σ := [some (.ref b), some (.str t), some (.int at_), some (.str sg), some (.int wy), some (.ref W), some (.int (kn : Int)), none, none, none]) (H := H11) (te := tVar 5) (th := tNoPart) (tl := tPart (tVar 6)) (ev_var rfl) (eo_some (ev_var rfl)) eo_none (sq_of hW11)
          rw [cut_pre (by omega)] at s1
          rw [cut_suf] at s2
          have s3 := el_catL (el_catL s1 (el_lst (ea_cons (ixr rfl rfl hW11) ea_nil) (by simp)) (by rw [List.length_map, List.length_take]; simp; omega)) s2 (by rw [List.length_append, List.length_map, List.length_map, List.length_take, List.length_drop]; simp; omega)
          have e3 : ((rows.take kn).map V.str ++ [V.str rk] ++ (rows.drop kn).map V.str) = ((rows.take kn ++ [rk]) ++ rows.drop kn).map V.str := by
            rw [List.map_append, List.map_append] <;> rfl
          rw [e3] at s3
          have hb : sumL ((rows.take kn ++ [rk]) ++ rows.drop kn) ≤ 2 * m + 2 := by
            rw [sumL_app, sumL_app, sumL_one]
            omega
          refine s_ret (ev_jnM (K := K) s3 (by omega) (by omega)) fun H12 e12 => k _ H12 (asc_join (by omega) a1 (fun y hy => ?_) (by omega)) (B10.ext (e11.trans e12) (by omega)) (kk10.ex (e11.trans e12))
          rcases List.mem_append.mp hy with hy | hy
          · rcases List.mem_append.mp hy with hy | hy
            · exact hrA y (List.mem_of_mem_take hy)
            · rw [List.mem_singleton.mp hy]
              exact hrA rk hrkm
          · exact hrA y (List.mem_of_mem_drop hy)
        · refine q_when (b := false) (et_is (et_test (ev_op (ev_var (v := .int wy) rfl) ev_c (rv_eq rfl))) (by simp [h4])) (fun z => Bool.noConfusion z) (fun _ H11 e11 => ?_)
          have hW11 := e11 _ _ hW10
          have B11 := B10.ext e11 (Nat.le_refl _)
          have kk11 := kk10.ex e11
          clear hW9 hW10 B9 B10 kk9 kk10 e10 e11 hW B7 kk6 kk5 B5
          have hrkA : Asc rk := hw rk hrkm
          obtain ⟨hv, hvn⟩ := asc_split (y := " ") hrkA (by decide +kernel)
          have hvne := split_ne rk " "
          have hvs := split_sum (x := rk) q2
          have hrk7 : rk.length ≤ 7000 := by omega
          refine q_asgL (el_split (ixr rfl rfl hW11) (by omega) (by decide +kernel)) fun Y H12 nY e12 hY => ?_
          revert hY
          generalize Txt.split rk " " = wds at hv hvn hvne hvs ⊢
          intro hY
          have hvl : 0 < wds.length := List.length_pos_iff.mpr hvne
          have B12 := B11.ext e12 (Nat.le_refl _)
          have nYb : Y ≠ b := bag_ne B11 nY
          have hW12 := e12 _ _ hW11
          refine q_call (ea_cons (ev_var rfl) (ea_cons (ev_lenL (K := K) (ev_var (i := 7) rfl) (sq_of hY)) ea_nil)) fun H13 e13 => ⟨b, l, ns, n + 1 + 1 + 1 + 1, _, rfl, B12.ext e13 (Nat.le_refl _), by omega, by rw [List.length_map]; omega, big (by rw [List.length_map]; omega), fun jv H14 p14 q14 B14 k14 => ?_⟩
          rw [List.length_map] at q14
          obtain ⟨jn, rfl⟩ : ∃ jn : Nat, jv = (jn : Int) := ⟨jv.toNat, (Int.toNat_of_nonneg p14).symm⟩
          have hjn : jn < wds.length := by omega
          have hY14 := k14 _ _ (e13 _ _ hY) nYb
          have hW14 := k14 _ _ (e13 _ _ hW12) nWb
          have kk14 := ((kk11.ex e12).ex e13).trans k14
          clear k14 hW12 hW11 B11 B12 kk11 hY
          refine q_asgL (el_lst (vs := oddL.map V.str) (ea_cons ev_c (ea_cons ev_c (ea_cons ev_c (ea_cons ev_c (ea_cons ev_c (ea_cons ev_c (ea_cons ev_c (ea_cons ev_c (ea_cons ev_c (ea_cons ev_c (ea_cons ev_c (ea_cons ev_c (ea_cons ev_c (ea_cons ev_c ea_nil)))))))))))))) (by decide)) fun O H15 nO e15 hO => ?_
          have B15 := B14.ext e15 (Nat.le_refl _)
          have nOb : O ≠ b := bag_ne B14 nO
          have hY15 := e15 _ _ hY14
          have hW15 := e15 _ _ hW14
          have kk15 := kk14.ex e15
          clear hY14 hW14 kk14 B14
          have s1 := el_sl (K := K) (σ := [some (.ref b), some (.str t), some (.int at_), some (.str sg), some (.int wy), some (.ref W), some (.int (kn : Int)), some (.ref Y), some (.int (jn : Int)), some (.ref O)]) (H := H15) (te := tVar 7) (tl := tNoPart) (th := tPart (tVar 8)) (ev_var rfl) eo_none (eo_some (ev_var rfl)) (sq_of hY15)
          rw [cut_pre (by omega)] at s1
          refine q_teS ⟨⟨_, rfl⟩, s1 H15 (Ex.refl _) _ fun p1 H16 n1 e16 hp1 => ⟨_, rfl, _, rfl, b, l, O, ns, n + 1 + 1 + 1 + 1 + 1, oddL.map V.str, rfl, B15.ext e16 (Nat.le_refl _), by omega, e16 _ _ hO, nOb, by decide, by decide, fun ov H17 hov B17 k17 => ⟨sz_of (by simp), fun p2 hp2 => ?_⟩⟩⟩
          obtain ⟨ow, how, rfl⟩ := List.mem_map.mp hov
          obtain ⟨o1, o2⟩ := odd_ok ow how
          have n1b : p1 ≠ b := bag_ne B15 n1
          have hp1' := k17 _ _ hp1 n1b
          have x2 := Ex.new (o := .lst [V.str ow]) hp2
          refine ⟨p1, p2, _, _, rfl, rfl, x2 _ _ hp1', upd_same, sz_of (by rw [List.length_map, List.length_take]; simp; omega), fun p3 hp3 => ?_⟩
          have x3 := Ex.new (o := .lst ((wds.take jn).map V.str ++ [V.str ow])) hp3
          have hp3' := upd_same (H := upd H17 p2 (.lst [V.str ow])) (a := p3) (o := .lst ((wds.take jn).map V.str ++ [V.str ow]))
          have hY18 := x3 _ _ (x2 _ _ (k17 _ _ (e16 _ _ hY15) nYb))
          have hW18 := x3 _ _ (x2 _ _ (k17 _ _ (e16 _ _ hW15) nWb))
          have B18 := (B17.ext x2 (Nat.le_refl _)).ext x3 (Nat.le_refl _)
          have kk18 := (((kk15.ex e16).trans k17).ex x2).ex x3
          clear hp1' hp1 hY15 hW15 B17 kk15 k17 x2 x3 hp2 hp3
          revert hp3' hY18 hW18 B18 kk18
          generalize upd (upd H17 p2 (.lst [V.str ow])) p3 (.lst ((wds.take jn).map V.str ++ [V.str ow])) = H18
          intro hp3' hY18 hW18 B18 kk18
          obtain ⟨dn, hdn, hdj⟩ : ∃ dn : Nat, ((jn : Int) + (if decide (5 < wy) = true then 1 else 0)) = (dn : Int) ∧ jn ≤ dn := by
            split
            · exact ⟨jn + 1, rfl, by omega⟩
            · exact ⟨jn, by omega, Nat.le_refl _⟩
          have s2 := el_sl (K := K) (σ := [some (.ref b), some (.str t), some (.int at_), some (.str sg), some (.int wy), some (.ref W), some (.int (kn : Int)), some (.ref Y), some (.int (jn : Int)), some (.ref O)]) (H := H18) (te := tVar 7) (th := tNoPart) (tl := tPart (tOp (rI0 fun i j => V.int (i + j)) (tVar 8) (tCB rInt1 (tCons (tOp (rI0 fun i j => V.bl (decide (j < i))) (tVar 4) (tC (V.int 5))) tNil)))) (lo := some ((dn : Nat) : Int)) (ev_var rfl) (eo_some (ev_is (ev_op (z := .int ((jn : Int) + (if decide (5 < wy) = true then 1 else 0))) (ev_var (v := .int (jn : Int)) rfl) (ev_intb (ev_op (z := .bl (decide (5 < wy))) (ev_var (v := .int wy) rfl) ev_c fun H1 _ Q q => ⟨_, _, rfl, rfl, q H1 (Ex.refl _)⟩)) fun H1 _ Q q => ⟨_, _, rfl, rfl, q H1 (Ex.refl _)⟩) (by rw [hdn]))) eo_none (sq_of hY18)
          rw [cut_suf] at s2
          refine s2 H18 (Ex.refl _) _ fun p4 H19 n4 e19 hp4 => ⟨p3, p4, _, _, rfl, rfl, e19 _ _ hp3', hp4, sz_of (by rw [List.length_append, List.length_map, List.length_map, List.length_take, List.length_drop]; simp; omega), fun p5 hp5 => ?_⟩
          have x5 := Ex.new (o := .lst ((wds.take jn).map V.str ++ [V.str ow] ++ (wds.drop dn).map V.str)) hp5
          have e3 : ((wds.take jn).map V.str ++ [V.str ow] ++ (wds.drop dn).map V.str) = ((wds.take jn ++ [ow]) ++ wds.drop dn).map V.str := by
            rw [List.map_append, List.map_append] <;> rfl
          have hW20 := x5 _ _ (e19 _ _ hW18)
          have B20 := (B18.ext e19 (Nat.le_refl _)).ext x5 (Nat.le_refl _)
          have kk20 := (kk18.ex e19).ex x5
          have hp5' : (upd H19 p5 (.lst ((wds.take jn).map V.str ++ [V.str ow] ++ (wds.drop dn).map V.str))) p5 = some (.lst (((wds.take jn ++ [ow]) ++ wds.drop dn).map V.str)) := by rw [← e3]; exact upd_same
          have hb : sumL ((wds.take jn ++ [ow]) ++ wds.drop dn) ≤ rk.length + 12 := by
            rw [sumL_app, sumL_app, sumL_one]
            have z1 := sumL_parts jn wds
            have z2 := sumL_parts (dn - jn) (wds.drop jn)
            rw [List.drop_drop, show jn + (dn - jn) = dn by omega] at z2
            omega
          have hna : ∀ y ∈ (wds.take jn ++ [ow]) ++ wds.drop dn, ∀ c ∈ TL.tl y, c < 128 := fun y hy => by
            rcases List.mem_append.mp hy with hy | hy
            · rcases List.mem_append.mp hy with hy | hy
              · exact (hv y (List.mem_of_mem_take hy)).1
              · rw [List.mem_singleton.mp hy]
                exact o1
            · exact (hv y (List.mem_of_mem_drop hy)).1
          obtain ⟨nwa, nwl⟩ := asc_join (s := " ") (by omega) a2 hna hb
          refine ⟨" ", p5, (wds.take jn ++ [ow]) ++ wds.drop dn, rfl, rfl, .inl (sq_of hp5'), jn_fit (by omega) (by omega), ?_⟩
          revert nwa nwl
          generalize Txt.join " " ((wds.take jn ++ [ow]) ++ wds.drop dn) = nw
          intro nwa nwl
          refine ⟨_, rfl, _, rfl, W, rows.map V.str, (kn : Int), kn, rfl, rfl, hW20, ixN_nat (by rw [List.length_map]; exact hkn), ?_⟩
          have hset : (rows.map V.str).set kn (V.str nw) = (rows.set kn nw).map V.str := by rw [List.map_set]
          rw [hset]
          have hss := sumL_set (w := nw) hrk
          refine ⟨⟨_, rfl⟩, _, rfl, "\n", W, rows.set kn nw, rfl, rfl, .inl (sq_of upd_same), jn_fit (by omega) (by omega), k _ _ (asc_join (by omega) a1 (fun y hy => ?_) (by omega)) ((bag_upd B20 (Ne.symm nWb) (Ne.symm nWl)).ext (Ex.refl _) (by omega)) fun a o ha hab => ?_⟩
          · rcases List.mem_or_eq_of_mem_set hy with hy | hy
            · exact hrA y hy
            · rw [hy]
              exact nwa
          · rw [upd_ne (ne_of_none ha hHW)]
            exact kk20 _ _ ha hab
end
end Hs
namespace Hs
open PySem PySem.Spec PyProof.Rows L2 Evl
/-! ### try with several clauses, each with a name -/
theorem flyZ_kept {base : Heap} {l : List Env} {e : Addr} {Z : Obj → Prop} {h h' : Heap} (k : ∀ b o, h.get? b = some o → h'.get? b = some o) (f : HandSPX.FlyingZ base l e Z h) : HandSPX.FlyingZ base l e Z h' := by
  obtain ⟨f1, f2, f3, oe, vs, T, oT, ts, h1, h2, h3, h4, h5, h6, h7, h8, h9⟩ := f
  exact ⟨fun b o z => k b o (f1 b o z), f2, f3.of_keeps fun b o z _ => ⟨o, k b o z, rfl⟩, oe, vs, T, oT, ts, k _ _ h1, h2, h3, h4, h5, h6, k _ _ h7, h8, h9⟩
/-- the classes that a clause names: r tells of a class whether it is one of theirs -/
def TestOk (X : Cx) (t : Expr) (r : Value → Option Bool) : Prop :=
  ∀ (a : Addr) (oe : Obj) (pn : List (Addr × Obj)) (σ : L2.St) (H : Hp) (s : Shared), Inv (X.suite a ((a, oe) :: pn)) [] σ H s → ∀ (cls : Value) (b : Bool), r cls = some b → PySem.W.Looks (model X.prog X.w) s.heap (typeOf (.ref a)) cls →
    ∀ (Q : Bool → Shared → Prop) (E : Value → Shared → Prop), (∀ h', (∀ b o, s.heap.get? b = some o → h'.get? b = some o) → Q b { s with heap := h' }) →
      wpAny (model X.prog X.w) (X.A.mark (some (.ref a))) (eval t X.env) (fun c s₁ => wpAny (model X.prog X.w) (X.A.mark (some (.ref a))) (excMatches (.ref a) c) Q E s₁) E s
theorem ld_cls {X : Cx} {x : Str} {c : Value} {np : Pos} (hc : Names X x c) {a : Addr} {oe : Obj} {pn : List (Addr × Obj)} {σ : L2.St} {H : Hp} {s : Shared} (I : Inv (X.suite a ((a, oe) :: pn)) [] σ H s) {Q : Value → Shared → Prop} {E : Value → Shared → Prop} (q : Q c s) :
    wpAny (model X.prog X.w) (X.A.mark (some (.ref a))) (eval (.Name x np) X.env) Q E s := by
  obtain ⟨hg, hdbg, hm | ⟨hm, hv, hnn⟩⟩ := hc
  · exact ld_glob (X := X.suite a ((a, oe) :: pn)) I hg hm q hdbg
  · exact ld_blt (X := X.suite a ((a, oe) :: pn)) I hg hm hv q hnn hdbg
theorem test_one {X : Cx} {x : Str} {c : Value} {np : Pos} (hc : Names X x c) : TestOk X (.Name x np) (fun cls => PySem.W.exmOne X.K cls c) := by
  intro a oe pn σ H s I cls b hb LT Q E q
  exact ld_cls hc I ((PySem.W.exm_one (M := model X.prog X.w) I.kIn LT hb).here (q s.heap fun _ _ z => z))
theorem test_two {X : Cx} {x y : Str} {c1 c2 : Value} {np nq pos : Pos} {k : Nat} (hc : Names X x c1) (hd : Names X y c2)
    (hs1 : starEach [.Name x np, .Name y nq] X.env = [(false, eval (.Name x np) X.env), (false, eval (.Name y nq) X.env)] := by rfl) : TestOk X (.Tuple [.Name x np, .Name y nq] k pos) (fun cls => PySem.W.exmAny X.K cls [c1, c2]) := by
  intro a oe pn σ H s I cls b hb LT Q E q
  refine wpAny_Tuple_spliced ?_
  rw [hs1]
  show wpAny _ _ (spliced ((false, eval (.Name x np) X.env) :: (false, eval (.Name y nq) X.env) :: backTo pos [])) _ _ s
  refine Calls.spliced_cons (ld_cls hc I (Calls.spliced_cons (ld_cls hd I (Calls.spliced_nil ?_))))
  refine ⟨by show 2 ≤ sizeLine; decide, ?_⟩
  have kp : ∀ b o, s.heap.get? b = some o → (s.heap.push { cls := .type "tuple", data := .seq [c1, c2].toArray }).get? b = some o := fun b o z => Heap.get?_push_of_some _ z
  exact (PySem.W.exm_tup2 (M := model X.prog X.w) (I.kIn.keeps kp) (LT.keeps kp) (Heap.get?_push_size _ rfl) hb).here (q _ kp)
theorem test_three {X : Cx} {x y z : Str} {c1 c2 c3 : Value} {np nq nr pos : Pos} {k : Nat} (hc : Names X x c1) (hd : Names X y c2) (he : Names X z c3)
    (hs1 : starEach [.Name x np, .Name y nq, .Name z nr] X.env = [(false, eval (.Name x np) X.env), (false, eval (.Name y nq) X.env), (false, eval (.Name z nr) X.env)] := by rfl) : TestOk X (.Tuple [.Name x np, .Name y nq, .Name z nr] k pos) (fun cls => PySem.W.exmAny X.K cls [c1, c2, c3]) := by
  intro a oe pn σ H s I cls b hb LT Q E q
  refine wpAny_Tuple_spliced ?_
  rw [hs1]
  show wpAny _ _ (spliced ((false, eval (.Name x np) X.env) :: (false, eval (.Name y nq) X.env) :: (false, eval (.Name z nr) X.env) :: backTo pos [])) _ _ s
  refine Calls.spliced_cons (ld_cls hc I (Calls.spliced_cons (ld_cls hd I (Calls.spliced_cons (ld_cls he I (Calls.spliced_nil ?_))))))
  refine ⟨by show 3 ≤ sizeLine; decide, ?_⟩
  have kp : ∀ b o, s.heap.get? b = some o → (s.heap.push { cls := .type "tuple", data := .seq [c1, c2, c3].toArray }).get? b = some o := fun b o z => Heap.get?_push_of_some _ z
  exact (PySem.W.exm_tup3 (M := model X.prog X.w) (I.kIn.keeps kp) (LT.keeps kp) (Heap.get?_push_size _ rfl) hb).here (q _ kp)
end Hs
namespace Hs
open PySem PySem.Spec PyProof.Rows L2 Evl
/-- what the clauses wish of an exception of the body, one after the other; slot i is the clauses' name -/
def wManyA (i m : Nat) (Wout : WX) (D : Ends) : List ((Value → Option Bool) × (Addr → Value → Option Addr → TS)) → WX
  | [] => Wout
  | (r, ts) :: l => fun cls d σ H => ∃ b, r cls = some b ∧ (b = true → σ.length = m → ∀ a, H a = none → ts a cls d { nx := fun σ' H' => D.nx (σ'.set i none) H', rt := D.rt, bk := fun σ' H' => D.bk (σ'.set i none) H', ct := fun σ' H' => D.ct (σ'.set i none) H' } (σ.set i (some (.ref a))) H) ∧
      (b = false → wManyA i m Wout D l cls d σ H)
inductive HdsA (X : Cx) (n : Str) : List ExceptHandler → List ((Value → Option Bool) × (Addr → Value → Option Addr → TS)) → Prop
  | nil : HdsA X n [] []
  | cons {t : Expr} {r : Value → Option Bool} {ts : Addr → Value → Option Addr → TS} {b₀ : Stmt} {suite : List Stmt} {pos' : Pos} {hds : List ExceptHandler} {l : List ((Value → Option Bool) × (Addr → Value → Option Addr → TS))} (hc : TestOk X t r)
      (hsu : ∀ (a : Addr) (oe : Obj) (cls : Value) (d : Option Addr) (pn : List (Addr × Obj)), Zc cls d oe → (∃ vs, oe.data = .fields vs) → PSs (X.suite a ((a, oe) :: pn)) (b₀ :: suite) (ts a cls d)) (rest : HdsA X n hds l) :
      HdsA X n (.ExceptHandler (some t) (some n) (b₀ :: suite) pos' :: hds) ((r, ts) :: l)
theorem ps_try_manyA {X : Cx} {n : Str} {i : Nat} {body : List Stmt} {h₀ : ExceptHandler} {hds : List ExceptHandler} {l : List ((Value → Option Bool) × (Addr → Value → Option Addr → TS))} {pos : Pos} {tb : WX → TS} {Wout : WX}
    (hs : X.stack = X.env :: X.outer) (hf : X.env.frame = some X.env.locals) (hN : X.N.Nodup) (hi : X.N[i]? = some n) (hln : X.env.kindOf n = some .local) (tk : Takes X Wout)
    (hb : ∀ (W : WX) (pn : List (Addr × Obj)) (xe : Value → Shared → Prop), Takes (X.tr pn xe) W → PassesOwn (model X.prog X.w) X.A X.env xe → PSs (X.tr pn xe) body (tb W))
    (hh : HdsA X n (h₀ :: hds) l) : PS X (.Try body (h₀ :: hds) [] [] pos) (fun D σ H => tb (wManyA i X.N.length Wout D l) D σ H) := by
  refine ⟨fun pins s σ H D I h => ?_⟩
  have ok := I.ok
  have hfr : X.A.frames = some (X.env :: X.outer) := by rw [ok.frames, hs]
  have hloc : Loc X.env.scope n := .inl hln
  refine wpAny_Try_except ?_
  refine wpAny_mono ((hb (wManyA i X.N.length Wout D l) (X.pn ++ pins) (fun e s₁ => wpAny (model X.prog X.w) X.A (noteFrame e X.env) (fun _ s₂ => wpAny (model X.prog X.w) X.A (setFlight e none) (fun _ s₃ =>
    wpAny (model X.prog X.w) X.A (handleBy e X.env (h₀ :: hds)) (SP X pins D) X.xe s₃) X.xe s₂) X.xe s₁) (fun u s' xx => ?_) PassesOwn.looking).run [] s σ H D (I.toTry _) h) (fun f s1 hsp => ?_) (fun e s1 he => he)
  · obtain ⟨a, B, sI, pins', σ', H', cls, d, rfl, J', nb, up, sky, na, os, ag, w⟩ := xx
    have J : Inv X pins σ' H' sI := J'.ofTry ok
    have sky' : Sky B (X.env :: X.outer) a (Zc cls d) X.env.locals s'.heap := by rw [← hs]; exact sky
    show wpAny (model X.prog X.w) X.A (noteFrame (.ref a) X.env) _ _ _
    refine Sky.land Zc.steady hfr hf sky' fun h3 fl3 up3 => ?_
    have notFr : ∀ {h : Heap} {o : Obj} {vs : Array Value}, h.FunFrames B (X.env :: X.outer) → h.get? a = some o → o.data = .fields vs → a ∉ frs (X.env :: X.outer) := fun {h o vs} ff e dd hm => by
      obtain ⟨_, o', e', hnf⟩ := ff.mem hm
      rw [e] at e'; cases e'
      exact hnf _ dd
    have go : ∀ {hds' : List ExceptHandler} {l' : List ((Value → Option Bool) × (Addr → Value → Option Addr → TS))}, HdsA X n hds' l' → wManyA i X.N.length Wout D l' cls d σ' H' → ∀ h3, HandSPX.FlyingZ B (X.env :: X.outer) a (Zc cls d) h3 → sI.heap.UpToSlots h3 →
        wpAny (model X.prog X.w) X.A (handleBy (.ref a) X.env hds') (SP X pins D) X.xe { s' with heap := h3 } := by
      intro hds' l' hk
      induction hk with
      | nil =>
        intro w h3 fl3 up3
        refine wpAny_handleBy_nil ?_
        obtain ⟨k1, k2, k3, oe, vs, T, oT, ts', he, hz, hd, h1, hr⟩ := id fl3
        unfold PySem.passOn
        refine wpAny_bind (wpAny_field he hd h1 ?_)
        rw [if_neg (show ¬ ((Value.ref T == Value.none) = true) from by simp)]
        have fin : wpAny (model X.prog X.w) X.A (setFlight (.ref a) X.env.frame) (fun _ s4 => wpAny (model X.prog X.w) X.A (throw (.ref a) : Sem Flow) (SP X pins D) X.xe s4) X.xe { s' with heap := h3 } := by
          rw [hf]
          refine HandSPX.setFlight_upZ fl3 fun h4 hh4 up4 => wpAny_throw (tk _ _ ?_)
          exact ⟨a, B, sI, pins, σ', H', cls, d, rfl, J, nb, up3.trans up4, .inr (.inr (by rw [hs]; exact hh4)), na, os, ag, w⟩
        first
          | exact wpAny_bind (wpAny_pure (wpAny_bind fin))
          | exact wpAny_bind fin
      | @cons t r ts b₀ suite pos' hds2 l2 hc hsu rest ih =>
        intro w h3 fl3 up3
        obtain ⟨b, hb1, hyes, hno⟩ := w
        have J3 : Inv X pins σ' H' { s' with heap := h3 } := J.landed nb fl3.1 up3 os ag
        obtain ⟨oe3, vs3, he3, hz3, hd3⟩ := fl3.there
        have nfr := notFr fl3.2.2.1 he3 hd3
        have nL : a ≠ X.env.locals := fun z => nfr (List.mem_filterMap.mpr ⟨X.env, List.mem_cons_self, by rw [hf, z]⟩)
        have nF : a ∉ X.fs := fun hm => by
          obtain ⟨e, he, q⟩ := List.mem_filterMap.mp hm
          exact nfr (List.mem_filterMap.mpr ⟨e, List.mem_cons_of_mem _ he, q⟩)
        have S3 := J3.suite he3 hd3 na nL nF
        refine wpAny_handleBy_cons (codeAny_handlers_test ?_) (by intro q; cases q)
        have LT : PySem.W.Looks (model X.prog X.w) h3 (typeOf (.ref a)) cls := fun A Q E s k q => wpAny_typeOf_ref (k _ _ he3) (by rw [hz3.1]; exact q)
        refine hc a oe3 (X.pn ++ pins) σ' H' _ S3 cls b hb1 LT _ _ fun h4 kp4 => ?_
        have fl4 := flyZ_kept kp4 fl3
        have up4 : sI.heap.UpToSlots h4 := up3.trans (Heap.UpToSlots.of_keeps kp4)
        cases b with
        | true =>
          refine codeAny_handlers_suite_as ?_
          refine HandSPX.lands_againZ fl4 fun h5 fl5 up5 => ?_
          have J5 : Inv X pins σ' H' { s' with heap := h5 } := J.landed nb fl5.1 (up4.trans up5) os ag
          obtain ⟨oe5, vs5, he5, hz5, hd5⟩ := fl5.there
          have S5 := J5.suite he5 hd5 na nL nF
          refine store_ok (X := X.suite a ((a, oe5) :: (X.pn ++ pins))) (v := .ref a) S5 hN hi hloc rfl (fun s6 S6 => ?_) (.inr hln)
          refine wpAny_mono ((hsu a oe5 cls d (X.pn ++ pins) hz5 ⟨_, hd5⟩).run [] s6 _ H' _ S6 (hyes rfl J.len a na)) (fun f s6 hsp => ?_) (fun _ _ z => False.elim z)
          have end_ : ∀ {σ6 : L2.St} {H6 : Hp} {Q : Shared → Prop}, Inv (X.suite a ((a, oe5) :: (X.pn ++ pins))) [] σ6 H6 s6 → (∀ s7, Inv X pins (σ6.set i none) H6 s7 → Q s7) →
              wpAny (model X.prog X.w) X.A (do bindName X.env n .none; unbindBehindTheSuite X.env n pos') (fun _ s7 => Q s7) X.xe s6 := fun {σ6 H6 Q} S6 hq => gone_ok (S6.unsuite ok) hN hi hln hq
          cases f with
          | next =>
            obtain ⟨σ6, H6, S6, q6⟩ := hsp
            exact end_ S6 fun s7 J7 => ⟨_, _, J7, q6⟩
          | brk =>
            obtain ⟨σ6, H6, S6, q6⟩ := hsp
            exact end_ S6 fun s7 J7 => ⟨_, _, J7, q6⟩
          | cont =>
            obtain ⟨σ6, H6, S6, q6⟩ := hsp
            exact end_ S6 fun s7 J7 => ⟨_, _, J7, q6⟩
          | ret u =>
            obtain ⟨v6, σ6, H6, S6, r6, q6⟩ := hsp
            exact end_ S6 fun s7 J7 => ⟨_, _, _, J7, r6, q6⟩
        | false =>
          show wpAny _ X.A (handleBy (.ref a) X.env hds2) _ _ _
          exact ih (hno rfl) h4 fl4 up4
    exact go hh w h3 fl3 (up.trans up3)
  · cases f with
    | next =>
      obtain ⟨σ', H', J', q⟩ := hsp
      exact wpAny_execs_nil ⟨σ', H', J'.ofTry ok, q⟩
    | brk =>
      obtain ⟨σ', H', J', q⟩ := hsp
      exact ⟨σ', H', J'.ofTry ok, q⟩
    | cont =>
      obtain ⟨σ', H', J', q⟩ := hsp
      exact ⟨σ', H', J'.ofTry ok, q⟩
    | ret u =>
      obtain ⟨v, σ', H', J', r, q⟩ := hsp
      exact ⟨v, σ', H', J'.ofTry ok, r, q⟩
end Hs
namespace Hs
open PySem PySem.Spec PyProof.Rows L2 Evl
/-- e.n in an except suite, whatever own class the error has -/
def tXfA (K : PySem.W.Frag) (a : Addr) (cls : Value) (d : Option Addr) (n : Str) (te : TE) : TE := fun σ H Q => te σ H fun x H1 => x = .ref a ∧ ∃ C : Addr, cls = .ref C ∧ XfC K C ∧ PySem.W.findIn K (.ref C) n = some none ∧
  ∃ (dd : Addr) (fs : List (Str × V)) (v : V), d = some dd ∧ H1 dd = some (.xd fs) ∧ fs.lookup n = some v ∧ Q v H1
theorem pe_xfA {X : Cx} {a : Addr} {oe : Obj} {cls : Value} {d : Option Addr} {pn : List (Addr × Obj)} {e : Expr} {te : TE} {pos : Pos} {n : Str} (hz : Zc cls d oe) (hf : ∃ vs, oe.data = .fields vs) (he : PE (X.suite a ((a, oe) :: pn)) e te)
    (hb : attributeBase e n X.env (eval e X.env) = eval e X.env := by rfl) : PE (X.suite a ((a, oe) :: pn)) (.Attribute e n pos) (tXfA X.K a cls d n te) := by
  refine ⟨fun pins s σ H Q I h => ?_⟩
  refine attr_of hb (thn (he.run pins s σ H _ I h) fun u s1 hh => ?_)
  obtain ⟨x, H1, I1, rx, ex, C, ec, T, hno, dd, fs, v, ed, ea, l, q⟩ := hh
  subst ex
  obtain rfl : u = Value.ref a := rx
  subst ec
  subst ed
  obtain ⟨ha, _⟩ := I1.pin (a, oe) (List.mem_append_left _ List.mem_cons_self)
  obtain ⟨vs, hd⟩ := hf
  have hx : ObjOk X.prog X.w H1 s1.heap dd (.xd fs) := I1.hok dd _ ea
  obtain ⟨mA, hns, hr⟩ := hx
  obtain ⟨od, ho, hl⟩ := lookIn_ns hns
  obtain ⟨u, hu, ru⟩ := RelO.some_of (v := v) (o := mA n) (by rw [← l]; exact hr n)
  have J : PySem.W.InstAt s1.heap a oe C (some od) := ⟨ha, hz.1, by unfold PySem.W.notCls; rw [hd] <;> rfl, by rw [hz.2]; exact ho⟩
  exact HandSPX.exc_get I1.kIn J T.ga T.gg T.exC (PySem.W.findObj_own T.hdC hno rfl (by rw [hl, hu])) (handed_of ru) ⟨v, H1, I1.tok _, ru, q⟩
/-- the classes that the law's own catcher names -/
structure Cats (mg : Str → Option Value) (cN cL cK cB cS cM cC : Addr) : Prop where
  n : mg "NoThing" = some (.ref cN)
  l : mg "NoLook" = some (.ref cL)
  k : mg "Looked" = some (.ref cK)
  b : mg "BadText" = some (.ref cB)
  s : mg "ShadeError" = some (.ref cS)
  m : mg "Missing" = some (.ref cM)
  c : mg "Crowded" = some (.ref cC)
/-- an error class that only the last clause takes, with its word -/
structure Word (K : PySem.W.Frag) (C cN cL cK cB cS cM cC : Addr) : Prop where
  n : PySem.W.exmOne K (.ref C) (.ref cN) = some false
  l : PySem.W.exmAny K (.ref C) [.ref cL, .ref cK] = some false
  b : PySem.W.exmOne K (.ref C) (.ref cB) = some false
  s : PySem.W.exmAny K (.ref C) [.ref cS, .ref cM, .ref cC] = some true
  xf : XfC K C
  no : PySem.W.findIn K (.ref C) "word" = some none
/-- what the catcher makes of what it calls: ('told', v), or the word of an error -/
def TTr (K : PySem.W.Frag) (cN cL cK cB cS cM cC : Addr) : (XK → Hp → VK → Prop) → Hp → VK → Prop := fun tl H Q =>
  tl (fun cls d H' => ∃ (C dd : Addr) (fs : List (Str × V)) (wd : Str), cls = .ref C ∧ d = some dd ∧ Word K C cN cL cK cB cS cM cC ∧ H' dd = some (.xd fs) ∧ fs.lookup ("word" : Str) = some (V.str wd) ∧ ∀ p, H' p = none → Q (.ref p) (upd H' p (.tup [.str wd]))) H
    (fun v H1 => ([V.str "told", v] : List V).length ≤ sizeLine ∧ ∀ p, H1 p = none → Q (.ref p) (upd H1 p (.tup [.str "told", v])))
abbrev sTried : Stmt := top 22
theorem scTried : FnScope ["_law_act", "e"] ["_law_act"] (defScope sTried) := ⟨rfl, rfl, rfl, by decide +kernel, rfl, by decide +kernel, by decide +kernel⟩
theorem tried_gives {X : Cx} {q : Str} {g : Addr} {cdg : Value} {cN cL cK cB cS cM cC : Addr} (ct : Cats X.mg cN cL cK cB cS cM cC) :
    LamX.GivesTo X ["_law_act", "e"] "_law_tried" (defScope sTried) g cdg (defBody sTried) "_law_act" q (TTr X.K cN cL cK cB cS cM cC) := by
  intro f c' s H Q tl act hc h
  have nd := scTried.nd
  refine ⟨_, pss_one (ps_try_manyA (i := 1) (n := "e") (X := (cxOf C8.CX0 X.prog X.w X.K X.mg X.base ["_law_act", "e"] "_law_tried" (defScope sTried) g cdg X.A X.stack s H C8.E0).nox)
      (tb := fun W D σ H => ∃ Ech : XK, (∀ cls d σ' H', Ech cls d H' → W cls d σ' H') ∧ σ[0]? = some (some (.ref f)) ∧ H c' = some (LamX.CodeO c' q) ∧ tl Ech H (fun v H1 => ([V.str "told", v] : List V).length ≤ sizeLine ∧ ∀ p, H1 p = none → D.rt (.ref p) (upd H1 p (.tup [.str "told", v]))))
      rfl rfl nd rfl rfl LamX.takes0 (fun W pn xe tk _ => ?_)
      (.cons (test_one ⟨rfl, by decide, .inl ct.n⟩) (fun a oe cls d pn hz hf => pss_one (ps_ret (pe_tup (pa_cons (pe_xfA hz hf (pv 1)) (pa_cons (pe_xfA hz hf (pv 1)) (pa_cons (pe_xfA hz hf (pv 1)) pa_nil))))))
      (.cons (test_two ⟨rfl, by decide, .inl ct.l⟩ ⟨rfl, by decide, .inl ct.k⟩) (fun a oe cls d pn hz hf => pss_one (ps_ret (pe_tup (pa_cons (pe_xfA hz hf (pv 1)) (pa_cons (pe_xfA hz hf (pv 1)) pa_nil)))))
      (.cons (test_one ⟨rfl, by decide, .inl ct.b⟩) (fun a oe cls d pn hz hf => pss_one (ps_ret (pe_tup (pa_cons (pe_xfA hz hf (pv 1)) (pa_cons (pe_xfA hz hf (pv 1)) pa_nil)))))
      (.cons (test_three ⟨rfl, by decide, .inl ct.s⟩ ⟨rfl, by decide, .inl ct.m⟩ ⟨rfl, by decide, .inl ct.c⟩) (fun a oe cls d pn hz hf => pss_one (ps_ret (pe_tup (pa_cons (pe_xfA hz hf (pv 1)) pa_nil)))) .nil))))), ?_⟩
  · refine ⟨fun pins s' σ H' D I h' => ?_⟩
    obtain ⟨Ech, hW, h1, h2, h3⟩ := h'
    exact (pss_one (ps_ret (pe_tup (pa_cons pe_str (pa_cons (act W pn xe Ech _ _ tk hW) pa_nil))))).run pins s' σ H' D I ⟨h1, h2, h3⟩
  · refine ⟨_, ?_, rfl, hc, h⟩
    rintro cls d σ' H' ⟨C, dd, fs, wd, rfl, rfl, wc, hx, hl, k⟩
    refine ⟨false, wc.n, fun z => Bool.noConfusion z, fun _ => ⟨false, wc.l, fun z => Bool.noConfusion z, fun _ => ⟨false, wc.b, fun z => Bool.noConfusion z, fun _ => ⟨true, wc.s, fun _ hlen a na => ?_, fun z => Bool.noConfusion z⟩⟩⟩⟩
    have h1 : 1 < σ'.length := by
      rw [hlen]
      show 1 < 2
      decide
    exact ⟨.ref a, List.getElem?_set_self h1, rfl, C, rfl, wc.xf, wc.no, dd, fs, _, rfl, hx, hl, sz_of (by simp), fun p hp => k p hp⟩
end Hs
namespace Hs
open PySem PySem.Spec PyProof.Rows L2 Evl
/-- an error class that the clause of a text's errors takes, with its word and its row -/
structure WordR (K : PySem.W.Frag) (C cN cL cK cB : Addr) : Prop where
  n : PySem.W.exmOne K (.ref C) (.ref cN) = some false
  l : PySem.W.exmAny K (.ref C) [.ref cL, .ref cK] = some false
  b : PySem.W.exmOne K (.ref C) (.ref cB) = some true
  xf : XfC K C
  no : PySem.W.findIn K (.ref C) "word" = some none
  nr : PySem.W.findIn K (.ref C) "row" = some none
/-- what the catcher makes of what it calls: ('told', v), or the word and the row of an error -/
def TTrR (K : PySem.W.Frag) (cN cL cK cB cS cM cC : Addr) : (XK → Hp → VK → Prop) → Hp → VK → Prop := fun tl H Q =>
  tl (fun cls d H' => ∃ (C dd : Addr) (fs : List (Str × V)) (wd : Str) (r : Int), cls = .ref C ∧ d = some dd ∧ WordR K C cN cL cK cB ∧ H' dd = some (.xd fs) ∧ fs.lookup ("word" : Str) = some (V.str wd) ∧ fs.lookup ("row" : Str) = some (V.int r) ∧ ∀ p, H' p = none → Q (.ref p) (upd H' p (.tup [.str wd, .int r]))) H
    (fun v H1 => ([V.str "told", v] : List V).length ≤ sizeLine ∧ ∀ p, H1 p = none → Q (.ref p) (upd H1 p (.tup [.str "told", v])))
theorem tried_givesR {X : Cx} {q : Str} {g : Addr} {cdg : Value} {cN cL cK cB cS cM cC : Addr} (ct : Cats X.mg cN cL cK cB cS cM cC) :
    LamX.GivesTo X ["_law_act", "e"] "_law_tried" (defScope sTried) g cdg (defBody sTried) "_law_act" q (TTrR X.K cN cL cK cB cS cM cC) := by
  intro f c' s H Q tl act hc h
  have nd := scTried.nd
  refine ⟨_, pss_one (ps_try_manyA (i := 1) (n := "e") (X := (cxOf C8.CX0 X.prog X.w X.K X.mg X.base ["_law_act", "e"] "_law_tried" (defScope sTried) g cdg X.A X.stack s H C8.E0).nox)
      (tb := fun W D σ H => ∃ Ech : XK, (∀ cls d σ' H', Ech cls d H' → W cls d σ' H') ∧ σ[0]? = some (some (.ref f)) ∧ H c' = some (LamX.CodeO c' q) ∧ tl Ech H (fun v H1 => ([V.str "told", v] : List V).length ≤ sizeLine ∧ ∀ p, H1 p = none → D.rt (.ref p) (upd H1 p (.tup [.str "told", v]))))
      rfl rfl nd rfl rfl LamX.takes0 (fun W pn xe tk _ => ?_)
      (.cons (test_one ⟨rfl, by decide, .inl ct.n⟩) (fun a oe cls d pn hz hf => pss_one (ps_ret (pe_tup (pa_cons (pe_xfA hz hf (pv 1)) (pa_cons (pe_xfA hz hf (pv 1)) (pa_cons (pe_xfA hz hf (pv 1)) pa_nil))))))
      (.cons (test_two ⟨rfl, by decide, .inl ct.l⟩ ⟨rfl, by decide, .inl ct.k⟩) (fun a oe cls d pn hz hf => pss_one (ps_ret (pe_tup (pa_cons (pe_xfA hz hf (pv 1)) (pa_cons (pe_xfA hz hf (pv 1)) pa_nil)))))
      (.cons (test_one ⟨rfl, by decide, .inl ct.b⟩) (fun a oe cls d pn hz hf => pss_one (ps_ret (pe_tup (pa_cons (pe_xfA hz hf (pv 1)) (pa_cons (pe_xfA hz hf (pv 1)) pa_nil)))))
      (.cons (test_three ⟨rfl, by decide, .inl ct.s⟩ ⟨rfl, by decide, .inl ct.m⟩ ⟨rfl, by decide, .inl ct.c⟩) (fun a oe cls d pn hz hf => pss_one (ps_ret (pe_tup (pa_cons (pe_xfA hz hf (pv 1)) pa_nil)))) .nil))))), ?_⟩
  · refine ⟨fun pins s' σ H' D I h' => ?_⟩
    obtain ⟨Ech, hW, h1, h2, h3⟩ := h'
    exact (pss_one (ps_ret (pe_tup (pa_cons pe_str (pa_cons (act W pn xe Ech _ _ tk hW) pa_nil))))).run pins s' σ H' D I ⟨h1, h2, h3⟩
  · refine ⟨_, ?_, rfl, hc, h⟩
    rintro cls d σ' H' ⟨C, dd, fs, wd, r, rfl, rfl, wc, hx, hl, hl2, k⟩
    refine ⟨false, wc.n, fun z => Bool.noConfusion z, fun _ => ⟨false, wc.l, fun z => Bool.noConfusion z, fun _ => ⟨true, wc.b, fun _ hlen a na => ?_, fun z => Bool.noConfusion z⟩⟩⟩
    have h1 : 1 < σ'.length := by
      rw [hlen]
      show 1 < 2
      decide
    exact ⟨.ref a, List.getElem?_set_self h1, rfl, C, rfl, wc.xf, wc.no, dd, fs, _, rfl, hx, hl, .ref a, List.getElem?_set_self h1, rfl, C, rfl, wc.xf, wc.nr, dd, fs, _, rfl, hx, hl2, sz_of (by simp), fun p hp => k p hp⟩
end Hs
namespace Hs
open PySem PySem.Spec PyProof.Rows L2 LamX NdefX
/-! ### functions by a lambda as values: kept anywhere, called frames deeper while their maker's frame rests -/
/-- a lambda's function: its cells cl, its code object c -/
structure LF where
  qual : Str
  params : Arguments
  body : Expr
  scope : Scope
  cl : List (Str × Addr)
  c : Addr
def LF.nf (F : LF) : NF := ⟨"<lambda>", F.qual, F.params, [], F.scope, F.cl, F.c⟩
/-- the object at f is the function F -/
def LamO (f : Addr) (F : LF) : HO := .ext fun h => ∃ pm ctv : Value, h.get? f = some (PySem.W.kla_obj "<lambda>" F.qual F.params F.body F.scope F.cl pm F.c ctv)
theorem lamO_ne {f : Addr} {F : LF} (ps : Array Value) : LamO f F ≠ .tbl ps := fun z => by
  unfold LamO at z
  cases z
theorem lamO_at {P : Program} {w : World} {H : Hp} {h : Heap} {f : Addr} {F : LF} (hok : HOk P w H h) (e : H f = some (LamO f F)) : ∃ pm ctv : Value, h.get? f = some (PySem.W.kla_obj "<lambda>" F.qual F.params F.body F.scope F.cl pm F.c ctv) := by
  obtain ⟨z, _, _⟩ := hok f _ e
  exact z
section
variable {X : Cx} {pins : List (Addr × Obj)} {σ : L2.St} {H : Hp} {s : Shared}
theorem inv_lam {F : LF} {t' : Nat} {pm ctv : Value} (I : Inv X pins σ H s) :
    Inv X pins σ (upd H s.heap.objs.size (LamO s.heap.objs.size F)) { s with heap := s.heap.push (PySem.W.kla_obj "<lambda>" F.qual F.params F.body F.scope F.cl pm F.c ctv), toks := t' } := by
  have e : (s.heap.push (PySem.W.kla_obj "<lambda>" F.qual F.params F.body F.scope F.cl pm F.c ctv)).get? s.heap.objs.size = some (PySem.W.kla_obj "<lambda>" F.qual F.params F.body F.scope F.cl pm F.c ctv) := Heap.get?_push_size _ rfl
  exact I.laid (a := s.heap.objs.size) (fun b u z => Heap.get?_push_of_some _ z) (Nat.le_refl _) ⟨⟨pm, ctv, e⟩, ⟨_, e⟩, fun h1 h2 ⟨p, t, z⟩ st => ⟨p, t, st _ z⟩⟩
/-- lambda ..: a function of its own, known from now on -/
theorem lam_new {T : List (Addr × Str)} {c P : Addr} {params : Arguments} {body : Expr} {scope : Scope} {pos : Pos} {E : Value → Shared → Prop} {Q : Value → Shared → Prop} (I : Inv X pins σ H s) (TB : TabB X.base X.mg c P) (hcode : X.env.code = .ref c)
    (hm : (P, X.env.qual ++ "<lambda>") ∈ T) (hu : ∀ p ∈ T, p.1 = P → p.2 = X.env.qual ++ "<lambda>") (hT : Tabs T H) (hdef : defaultsOf params X.env = ([], [])) (hfree : ∀ y ∈ scope.names, y.2 = .free → ∃ c, X.env.cells.lookup y.1 = some c)
    (h : ∀ (f c' : Addr) (H1 : Hp) (s' : Shared), Inv X pins σ H1 s' → ExtN H H1 → (∀ b, H1 b = Option.none → H b = Option.none) → Tabs T H1 → H f = none → H1 f = some (LamO f ⟨X.env.qual ++ "<lambda>", params, body, scope, cloFrom X.env.cells scope.names [], c'⟩) → H1 c' = some (CodeO c' (X.env.qual ++ "<lambda>")) → Q (.ref f) s') :
    wpAny (model X.prog X.w) X.A (eval (.Lambda params body scope pos) X.env) Q E s := by
  refine PySem.W.kla_eval hdef ?_
  obtain ⟨ps, hP, ht, ha⟩ := hT _ hm
  have keep : ∀ {G : Hp} {b : Addr} {o : HO} {n : Addr} {u : HO}, G n = none → G b = some o → upd G n u b = some o := fun {G b o n u} z e => (upd_ne (ne_of_none e z)).trans e
  have hB := TB.bm.keeps I.bk
  have hPo : s.heap.get? P = some { cls := .none, data := .fields ps } := I.hok P _ hP
  have hG := I.mod.glob.keeps I.bk
  have hC := TB.code.keeps I.bk
  cases hc : codeAmong pos ps.toList with
  | some cv =>
    obtain ⟨c', rfl, hco⟩ := ha pos cv hc
    refine PySem.W.kla_makeFunctionHit (mg := X.mg) (c := c) (P := P) (ps := ps) (closure_ok hfree) I.ok.glob hG hcode hC hPo ht hc hB fun ctv h' tk hx hsz => ?_
    have J : Inv X pins σ H { s with heap := h', toks := tk } := I.kept hx
    have n0 : H h'.objs.size = none := J.hok.fresh (Nat.le_refl _)
    exact h _ c' _ _ (inv_lam (F := ⟨X.env.qual ++ "<lambda>", params, body, scope, cloFrom X.env.cells scope.names [], c'⟩) J) (fun b o e _ => keep n0 e) (fun b e => upd_none e) (hT.ext fun b o e => keep n0 e) n0 upd_same (keep n0 hco)
  | none =>
    refine PySem.W.kla_makeFunction (mg := X.mg) (c := c) (P := P) (ps := ps) (closure_ok hfree) I.ok.glob hG hcode hC hPo ht hc TB.gP hB fun c' ctv h' tk hx hge hlt hrec htb => ?_
    obtain ⟨_, oc, vs, t, e2, hoc, hd, hv⟩ := hrec
    cases e2
    have nC : H c' = none := I.hok.fresh hge
    have J := inv_table (t' := tk) (more := #[rawInt pos.line, rawInt pos.col, .ref c']) I hP (fun b o hb e => hx b o hb e) htb hge ⟨oc, vs, t, hoc, hd, hv⟩
    have n0 := J.hok.fresh (Nat.le_refl _)
    have go : ∀ b o, H b = some o → b ≠ P → upd (upd H P (.tbl (ps ++ #[rawInt pos.line, rawInt pos.col, .ref c']))) c' (CodeO c' (X.env.qual ++ "<lambda>")) b = some o := fun b o e nb => by
      rw [upd_ne (ne_of_none e nC), upd_ne nb]
      exact e
    have nP : ∀ b o, H b = some o → (∀ qs, o ≠ .tbl qs) → b ≠ P := fun b o e n z => by
      rw [z, hP] at e
      exact n ps (Option.some.inj e).symm
    have T1 : Tabs T (upd (upd H P (.tbl (ps ++ #[rawInt pos.line, rawInt pos.col, .ref c']))) c' (CodeO c' (X.env.qual ++ "<lambda>"))) := fun p hp => by
      have old : ∀ (ps' : Array Value), (∀ (p' : Pos) (cv : Value), codeAmong p' ps'.toList = some cv → ∃ c, cv = .ref c ∧ H c = some (CodeO c p.2)) → ∀ (p' : Pos) (cv : Value), codeAmong p' ps'.toList = some cv → ∃ d, cv = .ref d ∧ upd (upd H P (.tbl (ps ++ #[rawInt pos.line, rawInt pos.col, .ref c']))) c' (CodeO c' (X.env.qual ++ "<lambda>")) d = some (CodeO d p.2) := fun ps' z p' cv hcv => by
        obtain ⟨d, e1, e2⟩ := z p' cv hcv
        exact ⟨d, e1, go d _ e2 (nP d _ e2 codeO_ne)⟩
      by_cases hb : p.1 = P
      · have eq := hu p hp hb
        have eL : (ps ++ #[rawInt pos.line, rawInt pos.col, .ref c']).toList = ps.toList ++ [rawInt pos.line, rawInt pos.col, .ref c'] := by simp
        refine ⟨_, by rw [hb, upd_ne (ne_of_none hP nC), upd_same], by rw [eL]; exact PySem.TriplesOk_snoc _ _ _ _ ht, fun p' cv hcv => ?_⟩
        rw [eL] at hcv
        rcases among_app _ ht hcv with z | z
        · exact old ps (by rw [eq]; exact ha) p' cv z
        · exact ⟨c', z, by rw [eq, upd_same]⟩
      · obtain ⟨ps', a1, a2, a3⟩ := hT p hp
        exact ⟨ps', go _ _ a1 hb, a2, old ps' a3⟩
    refine h _ c' _ _ (inv_lam (F := ⟨X.env.qual ++ "<lambda>", params, body, scope, cloFrom X.env.cells scope.names [], c'⟩) J) (fun b o e n => keep n0 (go b o e (nP b o e n))) (fun b e => upd_none (upd_none (upd_none e))) (T1.ext fun b o e => keep n0 e) ?_ upd_same (keep n0 upd_same)
    exact I.hok.fresh (Nat.le_trans hge (Nat.le_of_lt hlt))
end
def tMkL (T : List (Addr × Str)) (mk : Addr → LF) : TE := fun _ H Q => Tabs T H ∧ ∀ (f c' : Addr) (H1 : Hp), ExtN H H1 → (∀ b, H1 b = Option.none → H b = Option.none) → Tabs T H1 → H f = none → H1 f = some (LamO f (mk c')) → H1 c' = some (CodeO c' (mk c').qual) → Q (.ref f) H1
theorem pe_lam {X : Cx} {T : List (Addr × Str)} {c P : Addr} {params : Arguments} {body : Expr} {scope : Scope} {pos : Pos} (TB : TabB X.base X.mg c P) (hcode : X.env.code = .ref c)
    (hm : (P, X.env.qual ++ "<lambda>") ∈ T) (hu : ∀ p ∈ T, p.1 = P → p.2 = X.env.qual ++ "<lambda>") (hdef : defaultsOf params X.env = ([], [])) (hfree : ∀ y ∈ scope.names, y.2 = .free → X.env.scope.names.lookup y.1 = some .cell ∨ X.env.scope.names.lookup y.1 = some .free) :
    PE X (.Lambda params body scope pos) (tMkL T fun c' => ⟨X.env.qual ++ "<lambda>", params, body, scope, cloFrom X.env.cells scope.names [], c'⟩) := by
  refine ⟨fun pins s σ H Q I h => ?_⟩
  obtain ⟨hT, h⟩ := h
  refine lam_new I TB hcode hm hu hT hdef (fun y hy e => (hfree y hy e).elim (fun z => I.ok.has _ (.inl z)) fun z => I.ok.has _ (.inr z)) fun f c' H1 s' I1 eN nn T1 f0 f1 c1 => ?_
  exact ⟨.ref f, H1, I1, rfl, h f c' H1 eN nn T1 f0 f1 c1⟩
/-! ### what such a function promises: sp ws, ws what its cells hold when it is called -/
structure LOk (P : Program) (w : World) (K : PySem.W.Frag) (mg : Str → Option Value) (base : Heap) (CX : CXT) (k : Nat) (F : LF) (ps fr : List Str) (sp : List (Option V) → Sp) : Prop where
  len : ∀ ws vs H Q E, sp ws vs H Q E → vs.length = ps.length
  run : ∀ (A : Around) (outer : List Env) (s : Shared) (H : Hp) (f : Addr) (us : List Value) (vs : List V) (ws : List (Option V)) (Q : VK) (E : XK), Room k A → Env0 P w K mg base A outer s H → H f = some (LamO f F) → H F.c = some (CodeO F.c F.qual) →
    CellsAt F.cl fr ws s.heap H → Vals vs us → sp ws vs H Q E → codeAny (model P w) A (.call (.ref f) ⟨us, []⟩) (CR CX outer P w H s Q E) s
section
variable {CX : CXT} {P : Program} {w : World} {K : PySem.W.Frag} {mg : Str → Option Value} {base : Heap} {N ps fr : List Str} {F : LF} {k : Nat} {sp : List (Option V) → Sp}
theorem lok_of (S : NScope N ps fr F.scope) (hb : ∀ (pm ctv : Value) (us : List Value), us.length = ps.length → bindArgs (PySem.W.kla_fn "<lambda>" F.qual F.params F.body F.scope F.cl pm (.ref F.c) ctv) ⟨us, []⟩ = pure (ps.zip us)) (len : ∀ ws vs H Q E, sp ws vs H Q E → vs.length = ps.length)
    (hbody : ∀ (A : Around) (outer : List Env) (s : Shared) (H : Hp) (f : Addr) (vs : List V) (ws : List (Option V)) (Q : VK) (E : XK), Room k (A.deeper (envF F.nf f s.heap.objs.size)) → ws.length = fr.length → sp ws vs H Q E →
      ∃ t, PE (ncx CX P w K mg base N F.nf f A outer s H E) F.body t ∧ t (startF N vs ws) H Q) :
    LOk P w K mg base CX (k + 1) F ps fr sp := by
  refine ⟨len, fun A outer s H f us vs ws Q E hr e0 hf hc C r hsp => ?_⟩
  have hl := len _ _ _ _ _ hsp
  have lim : s.heap.NoLimit := e0.mod.nolimit.keeps fun b o e => (e0.bs b o e).1
  obtain ⟨pm, ctv, ho⟩ := lamO_at e0.hok hf
  refine PySem.W.kla_callFunE hr.depth ho rfl S.co S.gen rfl (codeO_at e0.hok hc) ?_
  rw [hb pm ctv us (by rw [← r.length]; exact hl)]
  refine wpAny_pure (wpAny_newFunctionEnv S.nocell (fun ⟨n, _⟩ hy => S.par n (List.of_mem_zip hy).1) (fun h₁ hns hsb => ⟨lim.fresh _ hsb, ?_⟩) S.kind)
  show codeAny _ _ (.expr F.body (envF F.nf f s.heap.objs.size)) _ _
  have kp : ∀ b o, s.heap.get? b = some o → h₁.get? b = some o := fun b o e => hsb.extBut b o (Nat.ne_of_lt (Heap.lt_size e)) (Heap.get?_push_of_some _ e)
  obtain ⟨t, ht, hq⟩ := hbody A outer s H f vs ws Q E (hr.deeper _) C.len hsp
  have I : Inv (ncx CX P w K mg base N F.nf f A outer s H E) [] (startF N vs ws) H { s with heap := h₁, toks := s.toks + (ps.zip us).length } := inv_startN (F := F.nf) S hr.hd e0 hl r C hns kp
  refine PySem.W.kla_codeExpr (wpAny_mono (ht.run [] _ _ H Q I hq) (fun v s' z => ?_) fun e s' z => z)
  obtain ⟨w', H', J, rv, q⟩ := z
  exact ⟨w', H', J.os, J.bare, J.base, J.hok, rv, q⟩
end
/-! ### calls -/
section
variable {Z : Cx} {pins : List (Addr × Obj)} {σ : L2.St} {H : Hp} {s : Shared} {cl : List (Str × Addr)} {fr : List Str} {ws : List (Option V)}
/-- cells that stand in the base hold what they held there -/
theorem cells_base (C : CellsAt cl fr ws Z.base fun _ => none) (I : Inv Z pins σ H s) : CellsAt cl fr ws s.heap H := by
  have kp : ∀ c v, Z.base.IsCell c v → s.heap.IsCell c v := fun c v ⟨o, ho, hd⟩ => ⟨o, I.bk _ _ ho, hd⟩
  refine ⟨C.len, fun y c e => ?_, C.inj, fun i y e => ?_⟩
  · obtain ⟨_, v, z⟩ := C.all y c e
    have z2 := kp c v z
    obtain ⟨o, ho, _⟩ := z
    exact ⟨(I.bs _ _ ho).2, v, z2⟩
  · obtain ⟨c, hc, hv⟩ := C.has i y e
    refine ⟨c, hc, fun v ev => ?_⟩
    obtain ⟨u, r, z⟩ := hv v ev
    exact ⟨u, r, kp c _ z⟩
theorem cells_in {base' : Heap} (C : CellsAt cl fr ws s.heap H) (hb : ∀ y c, cl.lookup y = some c → base'.get? c = s.heap.get? c) : CellsAt cl fr ws base' fun _ => none := by
  have kp : ∀ y c, cl.lookup y = some c → ∀ v, s.heap.IsCell c v → base'.IsCell c v := fun y c e v ⟨o, ho, hd⟩ => ⟨o, (hb y c e).trans ho, hd⟩
  refine ⟨C.len, fun y c e => ?_, C.inj, fun i y e => ?_⟩
  · obtain ⟨_, v, z⟩ := C.all y c e
    exact ⟨rfl, v, kp y c e v z⟩
  · obtain ⟨c, hc, hv⟩ := C.has i y e
    refine ⟨c, hc, fun v ev => ?_⟩
    obtain ⟨u, r, z⟩ := hv v ev
    exact ⟨u, r, kp y c hc _ z⟩
theorem lamAt_of {f : Addr} {F : LF} (I : Inv Z pins σ H s) (e : H f = some (LamO f F)) : PySem.W.FnAt f s.heap := by
  obtain ⟨pm, ctv, ho⟩ := lamO_at I.hok e
  exact ⟨_, _, _, _, ho⟩
end
section
variable {Z : Cx} {CX : CXT} {F : LF} {ps fr : List Str} {ws : List (Option V)} {i j k : Nat} {x : Str} {sp : List (Option V) → Sp} {E : XK} {t : TA} {e : Expr} {es : List Expr} {p pos : Pos}
theorem run_l {pins : List (Addr × Obj)} {σ : L2.St} {H : Hp} {s : Shared} {Q : VK} {f : Addr} {us : List Value} {vs : List V} (Fn : LOk Z.prog Z.w Z.K Z.mg Z.base CX k F ps fr sp) (hr : Room j Z.A) (hk : k ≤ j) (hx : Passes CX Z E) (I : Inv Z pins σ H s)
    (hf : H f = some (LamO f F)) (hc : H F.c = some (CodeO F.c F.qual)) (C : CellsAt F.cl fr ws s.heap H) (r : Vals vs us) (q : sp ws vs H Q E) :
    wpAny (model Z.prog Z.w) Z.A (call (.ref f) us) (EP Z pins σ Q) Z.xe s := by
  refine wpAny_call (codeAny_mono (Fn.run Z.A Z.stack s H f us vs _ Q E (hr.mono hk) I.env0 hf hc C r q) fun r s' hq => ?_)
  cases r with
  | error er => exact hx pins σ H s er s' I hq
  | ok fl =>
    cases fl with
    | ret u => exact I.after hq
    | next => exact False.elim hq
    | brk => exact False.elim hq
    | cont => exact False.elim hq
/-- x(), x a name of the running frame that holds such a function; its maker's frame rests -/
theorem pe_callL0 (Fn : LOk Z.prog Z.w Z.K Z.mg Z.base CX k F [] fr sp) (C : CellsAt F.cl fr ws Z.base fun _ => none) (hr : Room j Z.A) (hk : k ≤ j) (hx : Passes CX Z E) (hN : Z.N[i]? = some x) (hv : Vis Z.env.scope x)
    (hd : (x == ("__debug__" : Str)) = false := by decide) (hcd : (x == ("__classdict__" : Str)) = false := by decide) :
    PE Z (.Call (.Name x p) [] [] pos) (fun σ H Q => ∃ f, σ[i]? = some (some (.ref f)) ∧ H f = some (LamO f F) ∧ H F.c = some (CodeO F.c F.qual) ∧ sp ws [] H Q E) := by
  refine ⟨fun pins s σ H Q I h => ?_⟩
  obtain ⟨f, hs, h1, h2, q⟩ := h
  refine wpAny_Call_Name_kw (thn ((pe_var (pos := p) hN hv hd hcd).run pins s σ H (fun v H1 => v = .ref f ∧ H1 = H) I ⟨.ref f, hs, rfl, rfl⟩) fun u s1 ⟨v, H1, I1, r1, ev, eH⟩ => ?_)
  subst ev
  rw [eH] at I1
  obtain rfl : u = Value.ref f := r1
  exact PySem.W.callWith_F0 (first := []) (lamAt_of I1 h1) (run_l Fn hr hk hx I1 h1 h2 (cells_base C I1) .nil q)
/-- x(e, ..) -/
theorem pe_callL (Fn : LOk Z.prog Z.w Z.K Z.mg Z.base CX k F ps fr sp) (C : CellsAt F.cl fr ws Z.base fun _ => none) (hr : Room j Z.A) (hk : k ≤ j) (hx : Passes CX Z E) (hN : Z.N[i]? = some x) (hv : Vis Z.env.scope x) (ha : PA Z (e :: es) t)
    (hd : (x == ("__debug__" : Str)) = false := by decide) (hcd : (x == ("__classdict__" : Str)) = false := by decide)
    (he : starEach (e :: es) Z.env = (false, eval e Z.env) :: starEach es Z.env := by rfl) (hpl : (backTo pos (starEach es Z.env)).any (·.1) = false := by rfl) :
    PE Z (.Call (.Name x p) (e :: es) [] pos) (fun σ H Q => ∃ f, σ[i]? = some (some (.ref f)) ∧ H f = some (LamO f F) ∧ t σ H fun vs H1 => H1 f = some (LamO f F) ∧ H1 F.c = some (CodeO F.c F.qual) ∧ sp ws vs H1 Q E) := by
  refine ⟨fun pins s σ H Q I h => ?_⟩
  obtain ⟨f, hs, h1, ht⟩ := h
  refine wpAny_Call_Name_kw (thn ((pe_var (pos := p) hN hv hd hcd).run pins s σ H (fun v H1 => v = .ref f ∧ H1 = H) I ⟨.ref f, hs, rfl, rfl⟩) fun u s1 ⟨v, H1, I1, r1, ev, eH⟩ => ?_)
  subst ev
  rw [eH] at I1
  obtain rfl : u = Value.ref f := r1
  refine PySem.W.callWith_F (first := []) (lamAt_of I1 h1) (thn (ha.run pos pins s1 σ H _ I1 ht) fun us s2 ⟨vs, H2, I2, r, h3, h4, q⟩ => ⟨lamAt_of I2 h3, ?_⟩) he hpl
  exact run_l Fn hr hk hx I2 h3 h4 (cells_base C I2) r q
end
end Hs
namespace Hs
open PySem PySem.Spec PyProof.Rows L2 LamX NdefX
/-! ### a call under a wider base: the caller's cells stand in it, so that they are known in every frame below -/
theorem env_more {X : Cx} {pins : List (Addr × Obj)} {σ : L2.St} {H : Hp} {s : Shared} (I : Inv X pins σ H s) (hfn : ∀ y, X.fn y = true) :
    ∃ base' : Heap, (∀ b o, X.base.get? b = some o → base'.get? b = some o) ∧ (∀ y c, X.env.cells.lookup y = some c → base'.get? c = s.heap.get? c) ∧ Env0 X.prog X.w X.K X.mg base' X.A X.stack s H := by
  have isC : ∀ y c, X.env.cells.lookup y = some c → c ∈ X.env.cells.map (·.2) := fun y c e => List.mem_map.mpr ⟨(y, c), PySem.mem_of_lookup e, rfl⟩
  let cs := (X.env.cells.filter fun q => X.env.cells.lookup q.1 == some q.2).map (·.2)
  have csC : ∀ c, c ∈ cs → ∃ y, X.env.cells.lookup y = some c := fun c hc => by
    obtain ⟨q, hq, e⟩ := List.mem_map.mp hc
    have z := (List.mem_filter.mp hq).2
    exact ⟨q.1, by rw [← e]; exact beq_iff_eq.mp z⟩
  have inC : ∀ y c, X.env.cells.lookup y = some c → c ∈ cs := fun y c e => List.mem_map.mpr ⟨(y, c), List.mem_filter.mpr ⟨PySem.mem_of_lookup e, by rw [beq_iff_eq]; exact e⟩, rfl⟩
  let l := (List.range s.heap.objs.size).filter fun b => (X.base.get? b).isNone && !(cs.contains b)
  have inL : ∀ b, b < s.heap.objs.size → X.base.get? b = none → b ∉ cs → b ∈ l := fun b h1 h2 h3 => by
    refine List.mem_filter.mpr ⟨List.mem_range.mpr h1, ?_⟩
    rw [h2]
    have h4 : cs.contains b = false := by
      cases q : cs.contains b with
      | false => rfl
      | true => exact absurd (List.contains_iff_mem.mp q) h3
    rw [h4] <;> rfl
  have outL : ∀ b, b ∈ l → X.base.get? b = none ∧ b ∉ cs := fun b hb => by
    have z := (List.mem_filter.mp hb).2
    obtain ⟨z1, z2⟩ := Bool.and_eq_true_iff.mp z
    refine ⟨Option.isNone_iff_eq_none.mp z1, fun q => ?_⟩
    rw [List.contains_iff_mem.mpr q] at z2
    cases z2
  have E0 := I.env0
  have up : ∀ b o, X.base.get? b = some o → (PySem.W.hideAll s.heap l).get? b = some o := fun b o e => PySem.W.hideAll_get l (E0.bs b o e).1 fun z => by
    rw [(outL b z).1] at e
    cases e
  refine ⟨PySem.W.hideAll s.heap l, up, fun y c e => ?_, E0.frames, ⟨E0.mod.kin.keeps up, E0.mod.glob.keeps up, ?_, E0.mod.nolimit.keeps up⟩, fun b o e => ?_, Nat.le_of_eq (PySem.W.hideAll_size _ _), ?_, E0.frf, E0.hok, E0.bare⟩
  · obtain ⟨v, o, ho, _⟩ := I.cell y c e
    rw [ho]
    exact PySem.W.hideAll_get l ho fun z => (outL c z).2 (inC y c e)
  · obtain ⟨mb, h1, h2⟩ := E0.mod.blt
    exact ⟨mb, h1.keeps up, h2⟩
  · have e1 := PySem.W.of_hideAll l e
    refine ⟨e1, ?_⟩
    by_cases hc : b ∈ cs
    · obtain ⟨y, hy⟩ := csC b hc
      exact I.freeC y b hy
    · cases hb : X.base.get? b with
      | some o' => exact (E0.bs b o' hb).2
      | none =>
        rw [PySem.W.hideAll_none l (inL b (Heap.lt_size e1) hb hc)] at e
        cases e
  · refine funFrames_none E0.funs fun L hL => ?_
    obtain ⟨hn, o, ho, _⟩ := E0.funs.mem hL
    refine PySem.W.hideAll_none l (inL L (Heap.lt_size ho) hn fun hc => ?_)
    obtain ⟨y, hy⟩ := csC L hc
    rcases List.mem_cons.mp (I.stkSub L hL) with z | z
    · exact I.cne y L hy z
    · obtain ⟨_, o2, ho2, _⟩ := I.ok.funs.mem z
      exact absurd (Nat.lt_of_lt_of_le (Heap.lt_size ho2) (I.ok.cab y L (hfn y) hy)) (Nat.lt_irrefl _)
/-- base' holds the running frame's cells, with what its names stand for -/
def Clo (X : Cx) (σ : L2.St) (base' : Heap) : Prop := ∀ (cl : List (Str × Addr)) (fr : List Str) (js : List Nat), (X.Ok → Caps X cl fr js) → CellsAt cl fr (js.map (slotAt σ)) base' fun _ => none
/-- an own def that gets functions which the running frame made -/
theorem pe_ownB {X : Cx} {k j : Nat} {x : Str} {ps : List Str} {sp : Heap → Sp} {e : Expr} {es : List Expr} {t : TA} {p pos : Pos} (O : ∀ base', (∀ b o, X.base.get? b = some o → base'.get? b = some o) → Own X.prog X.w X.K X.mg base' k x ps (sp base')) (hfn : ∀ y, X.fn y = true) (hr : Room j X.A) (hk : k ≤ j) (hg : Gl X x) (ha : PA X (e :: es) t)
    (hdb : (x == ("__debug__" : Str)) = false := by decide) (he : starEach (e :: es) X.env = (false, eval e X.env) :: starEach es X.env := by rfl) (hpl : (backTo pos (starEach es X.env)).any (·.1) = false := by rfl) :
    PE X (.Call (.Name x p) (e :: es) [] pos) (fun σ H Q => t σ H fun vs H1 => ∀ base', (∀ b o, X.base.get? b = some o → base'.get? b = some o) → Clo X σ base' → sp base' vs H1 Q C8.E0) := by
  obtain ⟨f, fd, _, m, kp, b⟩ := (O X.base fun _ _ z => z).ex
  refine ⟨fun pins s σ H Q I h => ?_⟩
  refine wpAny_Call_Name_kw (ld_glob I hg m ?_ hdb)
  refine PySem.W.callWith_K (h₀ := X.base) I.ok.mod.kin kp (thn (ha.run pos pins s σ H _ I h) fun us s1 ⟨vs, H1, I1, r, q⟩ => ⟨I1.kIn, ?_⟩) he hpl
  obtain ⟨base', up, cells, E1⟩ := env_more I1 hfn
  have q1 := q base' up fun cl fr js cp => cells_in (cells_of I1 (cp I1.ok)) fun y c e => cells y c ((cp I1.ok).sub y c e)
  obtain ⟨f', fd', F, m', kp', b'⟩ := (O base' up).ex
  have ef : f' = f := by
    rw [m] at m'
    cases m'
    rfl
  subst ef
  have hl : vs.length = ps.length := F.len _ _ _ _ q1
  refine wpAny_call (codeAny_mono (F.run X.A X.stack s1 H1 ⟨us, []⟩ us vs Q C8.E0 (hr.mono hk) E1 ?_ r q1) fun r s' hq => ?_)
  · have z := b' s1 us I1.kIn (by rw [List.append_nil, ← r.length, hl])
    rw [List.append_nil] at z
    exact z
  · cases r with
    | error er => exact (show False from hq).elim
    | ok fl =>
      cases fl with
      | ret u => exact I1.after hq
      | next => exact False.elim hq
      | brk => exact False.elim hq
      | cont => exact False.elim hq
/-- f is a function by a lambda whose cells stand in the base; tl: what its call does -/
def Act (P : Program) (w : World) (K : PySem.W.Frag) (mg : Str → Option Value) (base : Heap) (k : Nat) (q : Str) (H : Hp) (f : Addr) (tl : XK → Hp → VK → Prop) : Prop :=
  ∃ (F : LF) (fr : List Str) (ws : List (Option V)) (sp : List (Option V) → Sp), F.qual = q ∧ LOk P w K mg base (L2.CX P w) k F [] fr sp ∧ CellsAt F.cl fr ws base (fun _ => none) ∧ H f = some (LamO f F) ∧ H F.c = some (CodeO F.c F.qual) ∧ tl = fun E H' Q => H' f = some (LamO f F) ∧ sp ws [] H' Q E
/-- what the catcher promises of it -/
def spTried (P : Program) (w : World) (K : PySem.W.Frag) (mg : Str → Option Value) (base : Heap) (k : Nat) (q : Str) (cN cL cK cB cS cM cC : Addr) : Sp := fun vs H Q _ => ∃ (f : Addr) (tl : XK → Hp → VK → Prop), vs = [.ref f] ∧ Act P w K mg base k q H f tl ∧ TTr K cN cL cK cB cS cM cC tl H Q
theorem ok_tried {P : Program} {w : World} {K : PySem.W.Frag} {mg : Str → Option Value} {base : Heap} {g : Addr} {fd : FuncData} {k : Nat} {q : Str} {cN cL cK cB cS cM cC : Addr} (F : FnP K "_law_tried" sTried g fd) (ct : Cats mg cN cL cK cB cS cM cC) :
    FnOk P w K mg base CX0 (k + 1) g fd ["_law_act"] (spTried P w K mg base k q cN cL cK cB cS cM cC) := by
  obtain ⟨oc, od, dV, kV, doc, pm, an, cdv, ctt, osl, rfl, lk, hcd, _, _⟩ := F.ex
  refine ⟨fun vs H Q E h => ?_, fun A outer s H args us vs Q E hr e0 hb r hsp => ?_⟩
  · obtain ⟨f, tl, rfl, _⟩ := h
    rfl
  · obtain ⟨f, tl, rfl, ⟨F, fr, ws, sp, rfl, Fn, C, h1, h2, rfl⟩, hT⟩ := hsp
    refine LamX.run_ofS (N := ["_law_act", "e"]) (ps := ["_law_act"]) (us := us) (vs := [.ref f]) lk hcd scTried hr e0 hb r rfl fun hr' => ?_
    obtain ⟨t', ht', hq'⟩ := tried_gives (X := { cxOf CX0 P w K mg base [] "" (defScope sTried) g cdv A outer s H E with A := A, stack := outer }) (q := F.qual) (g := g) (cdg := cdv) ct f F.c s H Q (fun E H' Q => H' f = some (LamO f F) ∧ sp ws [] H' Q E)
      (fun W pn xe E p1 p2 tk hW => ⟨fun pins s1 σ H1 Q1 I1 h => (pe_callL0 (i := 0) (x := "_law_act") (E := E) Fn C hr' (Nat.le_refl _) (passes_call tk hW) rfl (.inl rfl)).run pins s1 σ H1 Q1 I1 ⟨f, h.1, h.2.2.1, h.2.1, h.2.2.2⟩⟩) h2 hT
    exact ⟨t', ht'.nox, hq'⟩
end Hs
namespace Hs
open PySem PySem.Spec PyProof.Rows L2 LamX NdefX
/-- what the catcher promises of it -/
def spTriedR (P : Program) (w : World) (K : PySem.W.Frag) (mg : Str → Option Value) (base : Heap) (k : Nat) (q : Str) (cN cL cK cB cS cM cC : Addr) : Sp := fun vs H Q _ => ∃ (f : Addr) (tl : XK → Hp → VK → Prop), vs = [.ref f] ∧ Act P w K mg base k q H f tl ∧ TTrR K cN cL cK cB cS cM cC tl H Q
theorem ok_triedR {P : Program} {w : World} {K : PySem.W.Frag} {mg : Str → Option Value} {base : Heap} {g : Addr} {fd : FuncData} {k : Nat} {q : Str} {cN cL cK cB cS cM cC : Addr} (F : FnP K "_law_tried" sTried g fd) (ct : Cats mg cN cL cK cB cS cM cC) :
    FnOk P w K mg base CX0 (k + 1) g fd ["_law_act"] (spTriedR P w K mg base k q cN cL cK cB cS cM cC) := by
  obtain ⟨oc, od, dV, kV, doc, pm, an, cdv, ctt, osl, rfl, lk, hcd, _, _⟩ := F.ex
  refine ⟨fun vs H Q E h => ?_, fun A outer s H args us vs Q E hr e0 hb r hsp => ?_⟩
  · obtain ⟨f, tl, rfl, _⟩ := h
    rfl
  · obtain ⟨f, tl, rfl, ⟨F, fr, ws, sp, rfl, Fn, C, h1, h2, rfl⟩, hT⟩ := hsp
    refine LamX.run_ofS (N := ["_law_act", "e"]) (ps := ["_law_act"]) (us := us) (vs := [.ref f]) lk hcd scTried hr e0 hb r rfl fun hr' => ?_
    obtain ⟨t', ht', hq'⟩ := tried_givesR (X := { cxOf CX0 P w K mg base [] "" (defScope sTried) g cdv A outer s H E with A := A, stack := outer }) (q := F.qual) (g := g) (cdg := cdv) ct f F.c s H Q (fun E H' Q => H' f = some (LamO f F) ∧ sp ws [] H' Q E)
      (fun W pn xe E p1 p2 tk hW => ⟨fun pins s1 σ H1 Q1 I1 h => (pe_callL0 (i := 0) (x := "_law_act") (E := E) Fn C hr' (Nat.le_refl _) (passes_call tk hW) rfl (.inl rfl)).run pins s1 σ H1 Q1 I1 ⟨f, h.1, h.2.2.1, h.2.1, h.2.2.2⟩⟩) h2 hT
    exact ⟨t', ht'.nox, hq'⟩
end Hs
namespace Hs
open PySem PySem.Spec PyProof.Rows L2 Evl LamX NdefX
/-! ### a lambda without parameters; what the catcher tells of it, with a row -/
theorem lok_gen {P : Program} {w : World} {K : PySem.W.Frag} {mg : Str → Option Value} {base : Heap} {F : LF} {k : Nat} {fr : List Str} {t : XK → TE} (hp : F.params = ⟨[], [], none, [], [], none, []⟩) (S : NScope fr [] fr F.scope)
    (hb : ∀ (A : Around) (outer : List Env) (s : Shared) (H : Hp) (f : Addr) (E : XK), Room k (A.deeper (envF F.nf f s.heap.objs.size)) → PE (ncx (L2.CX P w) P w K mg base fr F.nf f A outer s H E) F.body (t E)) :
    LOk P w K mg base (L2.CX P w) (k + 1) F [] fr (fun ws vs H Q E => vs = [] ∧ t E (startF fr [] ws) H Q) := by
  refine lok_of S (fun pm ctv us hl => ?_) (fun ws vs H Q E h => by rw [h.1] <;> rfl) (fun A outer s H f vs ws Q E hr hl h => ?_)
  · cases us with
    | nil =>
      rw [hp]
      rfl
    | cons u r => cases hl
  · obtain ⟨rfl, hs⟩ := h
    exact ⟨_, hb A outer s H f E hr, hs⟩
def freeB (sc : Scope) (ns : List (Str × NameKind)) : Bool := ns.all fun y => !decide (y.2 = .free) || decide (sc.names.lookup y.1 = some .cell) || decide (sc.names.lookup y.1 = some .free)
theorem free_by {sc : Scope} {ns : List (Str × NameKind)} (h : freeB sc ns = true) : ∀ y ∈ ns, y.2 = .free → sc.names.lookup y.1 = some .cell ∨ sc.names.lookup y.1 = some .free := by
  unfold freeB at h
  simp only [Bool.or_eq_true, Bool.not_eq_true', decide_eq_true_eq, decide_eq_false_iff_not, List.all_eq_true] at h
  intro y hy e
  rcases h y hy with (z | z) | z
  · exact absurd e z
  · exact .inl z
  · exact .inr z
theorem caps_ns {X : Cx} {ns : List (Str × NameKind)} {fr : List Str} {js : List Nat} (ok : X.Ok) (hfree : ∀ y ∈ ns, y.2 = .free → X.env.scope.names.lookup y.1 = some .cell ∨ X.env.scope.names.lookup y.1 = some .free) (hfr : ∀ y ∈ fr, (y, NameKind.free) ∈ ns) (hjs : js.map (fun j => X.N[j]?) = fr.map some) : NdefX.Caps X (cloFrom X.env.cells ns []) fr js :=
  NdefX.Caps.made (scope := { kind := .function, names := ns, isGenerator := false, isCoroutine := false }) ok hfree hfr hjs
theorem tried_ofR {P : Program} {w : World} {K : PySem.W.Frag} {mg : Str → Option Value} {base : Heap} {k : Nat} {q : Str} {cN cL cK cB cS cM cC : Addr} {H : Hp} {Q : VK} {E : XK} {f : Addr} {F : LF} {fr : List Str} {ws : List (Option V)} {sp : List (Option V) → Sp} (Fn : LOk P w K mg base (L2.CX P w) k F [] fr sp) (hC : CellsAt F.cl fr ws base fun _ => none) (hq : F.qual = q)
    (hf : H f = some (LamO f F)) (hc : H F.c = some (CodeO F.c F.qual)) (h : ∀ (Q' : VK) (E' : XK), (∀ (C dd : Addr) (wd : Str) (r : Int) (H' : Hp), WordR K C cN cL cK cB → H' dd = some (.xd [("row", .int r), ("word", .str wd)]) → (∀ p, H' p = none → Q (.ref p) (upd H' p (.tup [.str wd, .int r]))) → E' (.ref C) (some dd) H') →
      (∀ v H1, (∀ p, H1 p = none → Q (.ref p) (upd H1 p (.tup [.str "told", v]))) → Q' v H1) → sp ws [] H Q' E') : spTriedR P w K mg base k q cN cL cK cB cS cM cC [.ref f] H Q E :=
  ⟨f, _, rfl, ⟨F, fr, ws, sp, hq, Fn, hC, hf, hc, rfl⟩, hf, h _ _ (fun C dd wd r H' wc hd kk => ⟨C, dd, _, wd, r, rfl, rfl, wc, hd, rfl, rfl, kk⟩) (fun v H1 kk => ⟨sz_of (by simp), kk⟩)⟩
end Hs
namespace Hs
open PySem PySem.Spec PyProof.Rows L2 Evl
/-! ### the law -/
theorem tabs_but {T : List (Addr × Str)} {H H' : Hp} {b : Addr} {xs : List V} (t : LamX.Tabs T H) (hb : H b = some (.lst xs)) (k : But H H' b) : LamX.Tabs T H' := fun p hp => by
  obtain ⟨ps, h1, h2, h3⟩ := t p hp
  refine ⟨ps, k _ _ h1 (ne_of h1 hb (by intro z; cases z)), h2, fun pos cv hc => ?_⟩
  obtain ⟨c, e1, e2⟩ := h3 pos cv hc
  exact ⟨c, e1, k _ _ e2 (ne_of e2 hb (by intro z; unfold LamX.CodeO at z; cases z))⟩
theorem tabs_upd {T : List (Addr × Str)} {H : Hp} {b : Addr} {xs : List V} {o : HO} (t : LamX.Tabs T H) (hb : H b = some (.lst xs)) : LamX.Tabs T (upd H b o) := tabs_but t hb (But.upd But.refl)
theorem bag_extN {H H' : Hp} {b l : Addr} {ns : List Int} {n : Nat} (B : BagAt H b l ns n) (e : LamX.ExtN H H') : BagAt H' b l ns n := by
  obtain ⟨⟨i, z, s, c, h1, h2, h3, h4, h5⟩, h6, h7⟩ := B
  exact ⟨⟨i, z, s, c, e _ _ h1 (fun _ z => by cases z), h2, h3, h4, h5⟩, e _ _ h6 (fun _ z => by cases z), h7⟩
end Hs
namespace Hs
open PySem PySem.Spec PyProof.Rows L2 Evl
theorem s_forRD {σ : L2.St} {D : Ends} {tu : TS} {ta : TA} {j : Nat} (M : Int → Hp → Prop) (h : ∀ k : List V → Hp → Prop, (∀ n H1, M n H1 → k [.int n] H1) → ta σ H k) (Pv : Int → Nat → L2.St → Hp → Prop) (hM : ∀ n H1, M n H1 → (0 ≤ n ∧ n ≤ 100000) ∧ Pv n 0 σ H1)
    (hs : ∀ n (i : Nat) σ' H', (i : Int) < n → Pv n i σ' H' → tu { D with nx := Pv n (i + 1), ct := Pv n (i + 1), bk := D.nx } (σ'.set j (some (.int (i : Int)))) H') (hd : ∀ n σ' H', Pv n n.toNat σ' H' → D.nx σ' H') : tFor (iRng1 ta) (gName j) tu D σ H :=
  h _ fun n H1 m => ⟨n, rfl, by have := (hM n H1 m).1; omega, by have := (hM n H1 m).1; omega, for_range (lo := 0) (n := n.toNat) (Pv n) (hM n H1 m).2 (fun i σ' H' hi p => by
    have e0 : (0 : Int) + (i : Int) = (i : Int) := Int.zero_add _
    show tu { D with nx := Pv n (i + 1), ct := Pv n (i + 1), bk := D.nx } (σ'.set j (some (.int ((0 : Int) + (i : Int))))) H'
    rw [e0]
    exact hs n i σ' H' (by omega) p) (hd n)⟩
def mB : Nat → Nat
  | 0 => 2500
  | n + 1 => 2 * mB n + 20
theorem mB_1 {j : Nat} (h : j ≤ 1) : mB j ≤ 7000 := by
  have e0 : mB 0 = 2500 := rfl
  have e1 : mB 1 = 2 * mB 0 + 20 := rfl
  obtain rfl | rfl : j = 0 ∨ j = 1 := by omega
  · omega
  · omega
theorem mB_2 {j : Nat} (h : j ≤ 2) : mB j ≤ 15000 := by
  have e0 : mB 0 = 2500 := rfl
  have e1 : mB 1 = 2 * mB 0 + 20 := rfl
  have e2 : mB 2 = 2 * mB 1 + 20 := rfl
  obtain rfl | rfl | rfl : j = 0 ∨ j = 1 ∨ j = 2 := by omega
  · omega
  · omega
  · omega
theorem AscN.le {m n : Nat} {t : Str} (h : AscN m t) (hn : m ≤ n) : AscN n t := ⟨h.1, Nat.le_trans h.2 hn⟩
theorem AscN.asc {m : Nat} {t : Str} (h : AscN m t) (hn : m ≤ 15000) : Asc t := ⟨h.1, Nat.le_trans h.2 hn⟩
theorem sumL_le {ts : List Str} {k : Nat} (h : ∀ t ∈ ts, t.length ≤ k) : sumL ts ≤ ts.length * (k + 1) := by
  induction ts with
  | nil => exact Nat.zero_le _
  | cons t r ih =>
    have h1 := h t List.mem_cons_self
    have h2 := ih fun z hz => h z (List.mem_cons_of_mem _ hz)
    rw [sumL_cons, List.length_cons, Nat.add_mul]
    omega
theorem rdText_nil : rdText "" = .inl 0 := by
  have e1 : Txt.split ("" : Str) "\n" = [("" : Str)] := by decide +kernel
  have e2 : Txt.split ("" : Str) " " = [("" : Str)] := by decide +kernel
  have h1 : rdOne "" = none := by
    unfold rdOne
    rw [e2]
    exact rd_none (by decide +kernel) (by decide +kernel) (by decide +kernel)
  have h2 : rdFrom [("" : Str)] = .inl 0 := by
    rw [rdFrom_one (fun k z => by rw [e2] at z; cases z), h1]
  unfold rdText
  rw [e1, h2]
def GTexts (xs : List V) (_ : Hp) : Prop := ∃ ts : List Str, xs = ts.map V.str ∧ ∀ t ∈ ts, AscN 480 t
theorem GTexts.snoc {xs : List V} {H H' : Hp} {t : Str} (h : GTexts xs H) (ht : AscN 480 t) : GTexts (xs ++ [.str t]) H' := by
  obtain ⟨ts, rfl, h⟩ := h
  refine ⟨ts ++ [t], by rw [List.map_append] <;> rfl, fun y hy => ?_⟩
  rcases List.mem_append.mp hy with hy | hy
  · exact h y hy
  · rw [List.mem_singleton.mp hy]
    exact ht
theorem a_te {te : TE} {i : Nat} {D : Ends} {σ : L2.St} {H : Hp} (h : te σ H (fun v H1 => D.nx (σ.set i (some v)) H1)) : tAsg te (gName i) D σ H := h
theorem op_te {r : R2} {ta tb : TE} {σ : L2.St} {H : Hp} {Q : VK} (h : ta σ H fun x H1 => tb σ H1 fun y H2 => r x y H2 Q) : tOp r ta tb σ H Q := h
def lamQ : Str := ("law" : Str) ++ ".<locals>." ++ "<lambda>"
section
variable {P : Program} {w : World} {K : PySem.W.Frag} {mg : Str → Option Value} {base : Heap} {CB dF c pt : Addr} {cN cL cK cB cS cM cC : Addr}
def spLaw (K : PySem.W.Frag) (T : List (Addr × Str)) : Sp := fun vs H Q _ => ∃ (a : Addr) (ns : List Int), vs = [.ref a] ∧ SqL K H a (ns.map V.int) ∧ ns.length ≤ 63 ∧ LamX.Tabs T H ∧ ∀ H', Q (.bl true) H'
abbrev sLaw : Stmt := top 33
theorem scLaw : FnScope ["_law_script", "_law_bag_here", "_law_step", "_law_rows", "_law_some", "_law_text", "_law_bend", "_law_k"] ["_law_script"] (defScope sLaw) := ⟨rfl, rfl, rfl, by decide +kernel, rfl, by decide +kernel, by decide +kernel⟩
theorem law_body {A : Around} {outer : List Env} {s : Shared} {H : Hp} {E : XK} {f : Addr} (hr : Room 8 (A.deeper (envOfC "law" (defScope sLaw) s.heap.objs.size f (.ref c))))
    (O__law_bag : Own P w K mg base 1 "_law_bag" ["_law_script"] (spBag K)) (O__law_pull : Own P w K mg base 1 "_law_pull" ["_law_bag_here", "_law_many"] spPull) (O__law_wide_deed : Own P w K mg base 4 "_law_wide_deed" ["_law_bag_here"] (spWideD K dF)) (O__law_row_text : Own P w K mg base 1 "_law_row_text" ["_law_deed"] (spLRow K))
    (O__law_spoilt : Own P w K mg base 3 "_law_spoilt" ["_law_bag_here", "_law_text"] spSpoil) (O__law_text_due : Own P w K mg base 5 "_law_text_due" ["_law_text"] (spTDue K)) (O__law_same : Own P w K mg base 7 "_law_same" ["_law_got", "_law_due"] (spSame K 7))
    (OA : ∀ base', (∀ b o, base.get? b = some o → base'.get? b = some o) → OwnX P w K mg base' 6 "read_deed" ["text"] [] (spDeedA K CB))
    (O__law_tried : ∀ base', (∀ b o, base.get? b = some o → base'.get? b = some o) → Own P w K mg base' 8 "_law_tried" ["_law_act"] (spTriedR P w K mg base' 7 lamQ cN cL cK cB cS cM cC))
    (TB : LamX.TabB base mg c pt) (g_range : mg "range" = none) (g_len : mg "len" = none) (g_str : mg "str" = none) (wB : WordR K CB cN cL cK cB) {vs : List V} {Q : VK} (h : spLaw K [(pt, lamQ)] vs H Q E) :
    ∃ t, PSs (cxOf CX0 P w K mg base ["_law_script", "_law_bag_here", "_law_step", "_law_rows", "_law_some", "_law_text", "_law_bend", "_law_k"] "law" (defScope sLaw) f (.ref c) A outer s H E) (defBody sLaw) t ∧ t { nx := fun _ H' => Q .non H', rt := Q } (L2.start ["_law_script", "_law_bag_here", "_law_step", "_law_rows", "_law_some", "_law_text", "_law_bend", "_law_k"] vs) H := by
  have nd := scLaw.nd
  refine ⟨_, PSs.nox (pss_cons (ps_set (i := 1) nd rfl (.inr rfl) (Hs.pe_own O__law_bag hr (by first | decide | omega) (by rfl) (pa_cons (pv 0) pa_nil)))
  (pss_cons (ps_for PassesOwn.never rfl (pi_range1 (by rfl) g_range (pa_cons pe_int pa_nil)) (pg_name (i := 2) nd rfl (.inl rfl)) (pss_cons (ps_set (i := 3) nd rfl (.inl rfl) (pe_lst (pa_cons (Hs.pe_own O__law_row_text hr (by first | decide | omega) (by rfl) (pa_cons (Hs.pe_own O__law_wide_deed hr (by first | decide | omega) (by rfl) (pa_cons (pv 1) pa_nil)) pa_nil)) pa_nil)))
  (Evl.pss_cut (ps_if (pt_cmpR op_eq (Hs.pe_own O__law_pull hr (by first | decide | omega) (by rfl) (pa_cons (pv 1) (pa_cons pe_int pa_nil))) pe_int (nomark _)) (pss_cons (ps_setLc (i := 4) (own := [("_law_k", 7)]) rfl nd rfl rfl (sw_true rfl rfl rfl (by decide +kernel)) (pi_range1 (by rfl) g_range (pa_cons (Hs.pe_own O__law_pull hr (by first | decide | omega) (by rfl) (pa_cons (pv 1) (pa_cons pe_int pa_nil))) pa_nil)) (blkOk_by (N := ["_law_script", "_law_bag_here", "_law_step", "_law_rows", "_law_some", "_law_text", "_law_bend", "_law_k"]) (sc := defScope (Hs.top 33)) (by decide +kernel)) (fun _ _ _ _ _ => (pg_name (i := 7) nd rfl (Or.inl rfl))) (fun _ _ _ _ _ => pts_nil) (fun _ _ _ _ _ => (Hs.pe_own O__law_row_text hr (by first | decide | omega) (by rfl) (pa_cons (Hs.pe_own O__law_wide_deed hr (by first | decide | omega) (by rfl) (pa_cons (pv 1) pa_nil)) pa_nil))))
  (pss_one (ps_set (i := 3) nd rfl (.inl rfl) (pe_op op_cat (pe_lst (pa_cons (pe_op op_add_str pe_str (pe_callTy call_str_int (by rfl) g_str (by decide +kernel) (pa_cons (pe_callB (r := Evl.rLenS K) call_len_seq (by rfl) g_len PySem.boot_len (pa_cons (pv 4) pa_nil)) pa_nil))) pa_nil)) (pv 4))))) pss_nil)
  (pss_cons (ps_set (i := 5) nd rfl (.inr rfl) (pe_join pe_str (pv 3)))
  (Evl.pss_cut (ps_for PassesOwn.never rfl (pi_range1 (by rfl) g_range (pa_cons (Hs.pe_own O__law_pull hr (by first | decide | omega) (by rfl) (pa_cons (pv 1) (pa_cons pe_int pa_nil))) pa_nil)) (pg_name (i := 6) nd rfl (.inl rfl)) (pss_one (ps_set (i := 5) nd rfl (.inr rfl) (Hs.pe_own O__law_spoilt hr (by first | decide | omega) (by rfl) (pa_cons (pv 1) (pa_cons (pv 5) pa_nil))))))
  (pss_one (ps_if (pt_not (pt_val (Hs.pe_own O__law_same hr (by first | decide | omega) (by rfl) (pa_cons (Hs.pe_ownB (sp := fun base => spTriedR P w K mg base 7 lamQ cN cL cK cB cS cM cC) O__law_tried (fun _ => rfl) hr (by decide) (by rfl) (pa_cons (Hs.pe_lam (T := [(pt, lamQ)]) TB rfl (List.mem_singleton.mpr rfl) (fun p hp _ => by rw [List.mem_singleton.mp hp] <;> rfl) rfl (LamX.lamS_by (sc := defScope sLaw) (by decide +kernel)).free) pa_nil)) (pa_cons (Hs.pe_own O__law_text_due hr (by first | decide | omega) (by rfl) (pa_cons (pv 5) pa_nil)) pa_nil))))) (pss_one (ps_ret pe_bl)) pss_nil)))))))
  (pss_one (ps_ret (pe_cmpR (op_eqD hr.units) (Hs.pe_ownB (sp := fun base => spTriedR P w K mg base 7 lamQ cN cL cK cB cS cM cC) O__law_tried (fun _ => rfl) hr (by decide) (by rfl) (pa_cons (Hs.pe_lam (T := [(pt, lamQ)]) TB rfl (List.mem_singleton.mpr rfl) (fun p hp _ => by rw [List.mem_singleton.mp hp] <;> rfl) rfl (LamX.lamS_by (sc := defScope sLaw) (by decide +kernel)).free) pa_nil)) (pe_tup (pa_cons pe_str (pa_cons pe_int pa_nil))) (nomark _)))))), ?_⟩
  obtain ⟨a, ns, rfl, hS0, hl, hT, k⟩ := h
  have q1 : ("\n" : Str).length = 1 := by decide +kernel
  have a1 : ∀ c ∈ TL.tl ("\n" : Str), c < 128 := by decide +kernel
  refine ⟨_, rfl, a, ns, rfl, hS0, hl, fun b l H1 nb nl B1 e1 => ?_⟩
  have hT1 := hT.ext e1
  dsimp only [gName]
  refine q_forR1 (n := 8) (ea_cons ev_c ea_nil) (by decide) (fun i σ' H' => (∃ v2 v3 v4 v5 v6 : Option V, σ' = [some (.ref a), some (.ref b), v2, v3, v4, v5, v6, none]) ∧ BagAt H' b l ns (2000 * i) ∧ LamX.Tabs [(pt, lamQ)] H') ?_ ?_ ?_
  · intro H4 e4
    exact ⟨⟨none, none, none, none, none, rfl⟩, B1.ext e4 (by omega), hT1.ext e4⟩
  · rintro i σ' H2 hi ⟨⟨v2, v3, v4, v5, v6, rfl⟩, B2, T2⟩
    have hi8 : i < 8 := by omega
    obtain ⟨xb2, hb2⟩ := bag_lst B2
    refine q_te ⟨_, rfl, b, l, ns, 2000 * i, rfl, B2, by omega, fun p d H4 ok ft sh hd B4 k4 => ⟨p, d, rfl, hd, ok, fun H5 e5 => ⟨sz_of (by simp), fun R hR => ?_⟩⟩⟩
    have T4 := tabs_but T2 hb2 k4
    have x6 := Ex.new (o := .lst [V.str d.text]) hR
    have B6 := B4.ext (e5.trans x6) (Nat.le_refl _)
    have T6 := T4.ext (e5.trans x6)
    have nRb : R ≠ b := bag_ne (B4.ext e5 (Nat.le_refl _)) hR
    have hR6 := upd_same (H := H5) (a := R) (o := .lst [V.str d.text])
    have dA : AscN 480 d.text := ⟨text_asc ok, text_len ok⟩
    clear x6 B4 T4 B2 T2 hb2
    revert hR6 B6 T6
    generalize upd H5 R (.lst [V.str d.text]) = H6
    intro B6 T6 hR6
    dsimp only [gName, List.set]
    refine q_cut (M := fun σ' H' => ∃ (R : Addr) (ts : List Str) (v4 : Option V), σ' = [some (.ref a), some (.ref b), some (.int (i : Int)), some (.ref R), v4, v5, v6, none] ∧ H' R = some (.lst (ts.map V.str)) ∧ ts.length ≤ 5 ∧ (∀ t ∈ ts, AscN 480 t) ∧ BagAt H' b l ns (2000 * i + 1500) ∧ LamX.Tabs [(pt, lamQ)] H') ?_ ?_
    · refine ⟨_, rfl, b, l, ns, 2000 * i + 200, 3, rfl, B6, by omega, by decide, by decide, fun v H7 p7 q7 B7 k7 => ⟨rfl, _, rfl, ?_⟩⟩
      obtain ⟨xb6, hb6⟩ := bag_lst B6
      have T7 := tabs_but T6 hb6 k7
      have hR7 := k7 _ _ hR6 nRb
      by_cases hv : v = 0
      · refine ite_T (by simp [hv]) ?_
        refine q_te (lc_drawR (b := b) (l := l) (ns := ns) (j := 7) (vs := [7]) (σ := [some (.ref a), some (.ref b), some (.int (i : Int)), some (.ref R), v4, v5, v6, none]) (M := 4) (c := 200) (N := 2000 * i + 202) (C := fun _ => True) (G := GTexts) (fun _ _ _ _ h => h) (by decide) (fun _ => rfl) (fun R r => ?_) (fun _ => ⟨[], rfl, fun _ h => by cases h⟩) (fun j xs' H' Q' hj bt Bi kq => ?_) (fun D rs H8 nD hD hl5 _ hG B8 k8 => ?_))
        · refine ⟨_, rfl, b, l, ns, 2000 * i + 200 + 1, 5, rfl, B7, by omega, by decide, by decide, fun v8 H8 p8 q8 B8 k8 => ?_⟩
          have z := r v8.toNat H8 (by omega) trivial B8 k8
          rw [show ((v8.toNat : Nat) : Int) = v8 by omega] at z
          exact z
        · refine ⟨_, rfl, b, l, ns, 2000 * i + 202 + j * 200, rfl, Bi, by omega, fun q d2 H8 ok2 ft2 sh2 hd2 B8 k8 => ⟨q, d2, rfl, hd2, ok2, fun H9 e9 => kq (.str d2.text) H9 ?_ (k8.ex e9) fun H10 kp g => g.snoc ⟨text_asc ok2, text_len ok2⟩⟩⟩
          rw [show 2000 * i + 202 + (j + 1) * 200 = 2000 * i + 202 + j * 200 + 200 by omega]
          exact B8.ext e9 (Nat.le_refl _)
        · obtain ⟨ts, rfl, hts⟩ := hG
          rw [List.length_map] at hl5 B8
          obtain ⟨xb7, hb7⟩ := bag_lst B7
          have T8 := tabs_but T7 hb7 k8
          have first : Ev (tOp (fun x y H Q => ∃ i j, x = V.str i ∧ y = V.str j ∧ i.length + j.length ≤ sizeLine ∧ Q (V.str (i ++ j)) H) (tC (.str "many ")) (tCB (fun xs H Q => ∃ i, xs = [V.int i] ∧ i.natAbs.log2 < 1920 ∧ Q (V.str (Str.ofString (toString i))) H) (tCons (tCB (rLenS K) (tCons (tVar 4) tNil)) tNil))) [some (.ref a), some (.ref b), some (.int (i : Int)), some (.ref R), some (.ref D), v5, v6, none] H8 (.str ("many " ++ numS ((ts.map V.str).length : Int))) := fun H10 e10 Q10 q10 => by
            refine ⟨_, rfl, D, ts.map V.str, rfl, .inl (sq_of (e10 _ _ hD)), ((ts.map V.str).length : Int), rfl, log_int (by rw [List.length_map]; omega), "many ", numS ((ts.map V.str).length : Int), rfl, rfl, sz_of ?_, q10 H10 (Ex.refl _)⟩
            have z1 : ("many " : Str).length = 5 := by decide +kernel
            have z2 := numS_len (n := ((ts.map V.str).length : Int)) (by rw [List.length_map]; omega)
            omega
          refine a_te (op_te ((el_lst (vs := [V.str ("many " ++ numS ((ts.map V.str).length : Int))]) (ea_cons first ea_nil) (by simp)) H8 (Ex.refl _) _ fun p1 H9 n1 e9 hp1 => ⟨_, rfl, p1, D, _, _, rfl, rfl, hp1, e9 _ _ hD, sz_of (by rw [List.length_map]; simp; omega), fun R2 hR2 => ?_⟩))
          have x2 := Ex.new (o := .lst ([V.str ("many " ++ numS ((ts.map V.str).length : Int))] ++ ts.map V.str)) hR2
          refine ⟨R2, ("many " ++ numS ((ts.map V.str).length : Int)) :: ts, _, rfl, upd_same, by rw [List.length_cons]; omega, fun t ht => ?_, B8.ext (e9.trans x2) (by omega), T8.ext (e9.trans x2)⟩
          rcases List.mem_cons.mp ht with rfl | ht
          · refine ⟨fun c hc => ?_, ?_⟩
            · rw [TL.tl_append] at hc
              rcases List.mem_append.mp hc with hc | hc
              · have z : ∀ c ∈ TL.tl ("many " : Str), c < 128 := by decide +kernel
                exact z c hc
              · exact numS_asc c hc
            · have z1 : ("many " : Str).length = 5 := by decide +kernel
              have z2 := numS_len (n := ((ts.map V.str).length : Int)) (by rw [List.length_map]; omega)
              have la : ("many " ++ numS ((ts.map V.str).length : Int)).length = ("many " : Str).length + (numS ((ts.map V.str).length : Int)).length := by
                rw [TL.len_tl, TL.tl_append, List.length_append, ← TL.len_tl, ← TL.len_tl]
              omega
          · exact hts t ht
      · refine ite_F (by simp [hv]) ?_
        refine ⟨R, [d.text], v4, rfl, hR7, by simp, fun t ht => ?_, B7.ext (Ex.refl _) (by omega), T7⟩
        rw [List.mem_singleton.mp ht]
        exact dA
    · rintro σ7 H7 ⟨R, ts, v4, rfl, hR7, hl5, hts, B7, T7⟩
      have hsum : sumL ts ≤ 2405 := Nat.le_trans (sumL_le fun t ht => (hts t ht).2) (Nat.le_trans (Nat.mul_le_mul_right 481 hl5) (by decide))
      have hT0 : AscN 2500 (Txt.join "\n" ts) := asc_join (by omega) a1 (fun y hy => (hts y hy).1) (by omega)
      refine q_te ⟨⟨_, rfl⟩, _, rfl, "\n", R, ts, rfl, rfl, .inl (sq_of hR7), jn_fit (by omega) (by omega), ?_⟩
      revert hT0
      generalize Txt.join "\n" ts = t0
      intro hT0
      dsimp only [gName, List.set]
      refine q_cut (M := fun σ' H' => ∃ (t : Str) (v6 : Option V), σ' = [some (.ref a), some (.ref b), some (.int (i : Int)), some (.ref R), v4, some (.str t), v6, none] ∧ Asc t ∧ BagAt H' b l ns (2000 * i + 1600) ∧ LamX.Tabs [(pt, lamQ)] H') ?_ ?_
      · obtain ⟨xb7, hb7⟩ := bag_lst B7
        refine s_forRD (fun n H' => (0 ≤ n ∧ n < 3) ∧ BagAt H' b l ns (2000 * i + 1501) ∧ But H7 H' b) (fun kk hk => ⟨_, rfl, b, l, ns, _, 3, rfl, B7, by omega, by decide, by decide, fun v H8 p8 q8 B8 k8 => hk v H8 ⟨⟨p8, q8⟩, B8, k8⟩⟩)
          (fun n j σ' H' => n < 3 ∧ ∃ (t : Str) (v6 : Option V), σ' = [some (.ref a), some (.ref b), some (.int (i : Int)), some (.ref R), v4, some (.str t), v6, none] ∧ AscN (mB j) t ∧ BagAt H' b l ns (2000 * i + 1501 + 8 * j) ∧ LamX.Tabs [(pt, lamQ)] H') (fun n H8 m => ⟨by omega, m.1.2, t0, v6, rfl, hT0, m.2.1, tabs_but T7 hb7 m.2.2⟩) ?_ ?_
        · rintro n j σ' H8 hj ⟨hn, t, v6, rfl, hA, B8, T8⟩
          have hj1 : j ≤ 1 := by omega
          have hm : mB j ≤ 7000 := mB_1 hj1
          obtain ⟨xb8, hb8⟩ := bag_lst B8
          exact ⟨_, rfl, _, rfl, b, l, ns, _, mB j, t, rfl, B8, by omega, hA, hm, fun s H9 hs B9 k9 => ⟨hn, s, _, rfl, hs, B9.ext (Ex.refl _) (by omega), tabs_but T8 hb8 k9⟩⟩
        · rintro n σ' H8 ⟨hn, t, v6, rfl, hA, B8, T8⟩
          have hj1 : n.toNat ≤ 2 := by omega
          exact ⟨t, v6, rfl, hA.asc (mB_2 hj1), B8.ext (Ex.refl _) (by omega), T8⟩
      · rintro σ8 H8 ⟨t, v6, rfl, hA, B8, T8⟩
        refine ⟨T8, fun f1 c1 H9 eN9 _ T9 _ hf1 hc1 base' up clo => ?_⟩
        have B9 := bag_extN B8 eN9
        refine tried_ofR (k := 7) (fr := ["_law_text"]) (ws := [some (.str t)]) (sp := fun ws vs H Q E => vs = [] ∧ tCall (spDeedA K CB) [] E (tCons (tVar 0) tNil) (NdefX.startF ["_law_text"] [] ws) H Q) ?LO ?CC rfl hf1 hc1 fun Q' E' hE hQ => ⟨rfl, _, rfl, t, rfl, hA, fun r hr d H10 e10 n10 hd10 => hE CB d "badtext" r H10 wB hd10 fun p hp => ?_, fun dd hdd q H10 e10 hq => hQ _ H10 fun p hp => ?_⟩
        case LO => exact lok_gen rfl (NdefX.nscope_by (by rfl)) fun A outer s H f E hr => pe_ownT (OA base' up) hr (Nat.le_refl _) rfl (passes_call (E := E) (takes_of rfl rfl rfl rfl) (fun _ _ _ _ h => h)) (pa_cons (pe_var (i := 0) rfl (.inr (.inr rfl))) pa_nil)
        case CC =>
          refine clo _ ["_law_text"] [5] fun ok => ?_
          dsimp only
          refine caps_ns ok ?_ ?_ rfl
          · exact free_by (sc := defScope sLaw) (by decide +kernel)
          · decide +kernel
        · have xp := Ex.new (o := .tup [V.str "badtext", .int (r : Int)]) hp
          refine ⟨_, rfl, t, rfl, hA, fun r2 hr2 p2 H11 e11 hp2 => ?_, fun dd hdd => absurd (hr.symm.trans hdd) (fun z => by cases z)⟩
          rw [hr] at hr2
          cases hr2
          have e912 := (e10.trans xp).trans e11
          refine ⟨.ref p, .ref p2, rfl, sm_flatsW (d := 5) (st_of (e11 _ _ upd_same)) hp2 (fun x hx => ?_) (by simp), fun H12 e12 => ⟨true, rfl, ite_F rfl ⟨⟨_, _, _, _, _, rfl⟩, B9.ext (e912.trans e12) (by omega), T9.ext (e912.trans e12)⟩⟩⟩
          simp only [List.mem_cons, List.not_mem_nil, or_false] at hx
          rcases hx with rfl | rfl <;> rfl
        · have xp := Ex.new (o := .tup [V.str "told", .ref q]) hp
          refine ⟨_, rfl, t, rfl, hA, fun r2 hr2 => absurd (hdd.symm.trans hr2) (fun z => by cases z), fun dd2 hdd2 p2 q2 H11 e11 hp2 hq2 => ?_⟩
          rw [hdd] at hdd2
          cases hdd2
          have e912 := (e10.trans xp).trans e11
          have hq11 := DDV.ext (xp.trans e11) hq
          have hsm := sm_ddW (K := K) (rdText_rok hA hdd) hq11 hq2
          refine ⟨.ref p, .ref p2, rfl, .inr ⟨p, p2, _, _, rfl, rfl, .inr ⟨st_of (e11 _ _ upd_same), hp2⟩, rfl, by simp, fun j x y hx hy => ?_⟩, fun H12 e12 => ⟨true, rfl, ite_F rfl ⟨⟨_, _, _, _, _, rfl⟩, B9.ext (e912.trans e12) (by omega), T9.ext (e912.trans e12)⟩⟩⟩
          match j, hx, hy with
          | 0, hx, hy =>
            cases hx
            cases hy
            exact .inl ⟨rfl, rfl⟩
          | 1, hx, hy =>
            cases hx
            cases hy
            exact hsm
          | j + 2, hx, _ => cases hx
  · rintro σ' H2 ⟨⟨v2, v3, v4, v5, v6, rfl⟩, B2, T2⟩
    refine ⟨T2, fun f1 c1 H9 eN9 _ T9 _ hf1 hc1 base' up clo => ?_⟩
    refine tried_ofR (k := 7) (fr := []) (ws := []) (sp := fun ws vs H Q E => vs = [] ∧ tCall (spDeedA K CB) [] E (tCons (tC (.str "")) tNil) (NdefX.startF [] [] ws) H Q) ?LO2 ?CC2 rfl hf1 hc1 fun Q' E' hE hQ => ⟨rfl, "", rfl, asc_nil, fun r hr d H10 e10 n10 hd10 => hE CB d "badtext" r H10 wB hd10 fun p hp => ?_, fun dd hdd => absurd (rdText_nil.symm.trans hdd) (fun z => by cases z)⟩
    case LO2 => exact lok_gen rfl (NdefX.nscope_by (by rfl)) fun A outer s H f E hr => pe_ownT (OA base' up) hr (Nat.le_refl _) rfl (passes_call (E := E) (takes_of rfl rfl rfl rfl) (fun _ _ _ _ h => h)) (pa_cons pe_str pa_nil)
    case CC2 =>
      refine clo _ [] [] fun ok => ?_
      dsimp only
      refine caps_ns ok ?_ ?_ rfl
      · exact free_by (sc := defScope sLaw) (by decide +kernel)
      · decide +kernel
    · rw [rdText_nil] at hr
      cases hr
      refine ⟨sz_of (by simp), fun p2 hp2 => ?_⟩
      have x2 := Ex.new (o := .tup [V.str "badtext", .int 0]) hp2
      have dB : ∀ {H' : Hp} {p : Addr}, H' p = some (.tup [.str "badtext", .int 0]) → Dp K H' (.ref p) (.tuple [.str "badtext", .int 0]) := fun h => .tup (st_of h) (.cons (.str _) (.cons (.int _) .nil))
      refine ⟨.tuple [.str "badtext", .int 0], .tuple [.str "badtext", .int 0], dB (x2 _ _ upd_same), dB upd_same, by decide +kernel, by decide +kernel, ?_⟩
      have he : PyData.eqv (.tuple [.str "badtext", .int 0]) (.tuple [.str "badtext", .int 0]) = true := by decide +kernel
      rw [he]
      exact k _
end
end Hs
namespace Hs
open PySem PySem.Spec PyProof.Rows L2 Evl
theorem wordRB_ok {K : PySem.W.Frag} {C cN cL cK cB : Addr} (h : wordRB K C cN cL cK cB = true) : WordR K C cN cL cK cB := by
  obtain ⟨h1, h⟩ := He.ba h
  obtain ⟨h2, h⟩ := He.ba h
  obtain ⟨h3, h⟩ := He.ba h
  obtain ⟨h4, h⟩ := He.ba h
  obtain ⟨h5, h6⟩ := He.ba h
  exact ⟨of_decide_eq_true h1, of_decide_eq_true h2, of_decide_eq_true h3, xfB_ok h4, He.eqO_ok h5, He.eqO_ok h6⟩
theorem forms_TA {K : PySem.W.Frag} {dF : Addr} (h : textsB K dF formsA = true) : ∀ w, ∃ r, PySem.W.nsIn K dF w = some r ∧ RelV (strV (FT w)) (r.getD .none) := fun w => by
  unfold textsB at h
  unfold PySem.W.nsIn
  split at h
  · rename_i c d es n a hk
    rw [hk]
    obtain ⟨h1, h2 | ⟨e, p, t, h2, h3, h4⟩⟩ := ent_find (w := w) h
    · refine ⟨none, ?_, ?_⟩
      · show (match es.toList.find? (·.key.isStr w) with | some e => some (some e.val) | none => if es.toList.any (·.refKey) then none else some none) = some none
        rw [h2.1, h1]
        rfl
      · unfold FT
        rw [h2.2]
        rfl
    · refine ⟨some e.val, ?_, ?_⟩
      · show (match es.toList.find? (·.key.isStr w) with | some e => some (some e.val) | none => if es.toList.any (·.refKey) then none else some none) = some (some e.val)
        rw [h2]
      · unfold FT
        rw [h3, h4]
        exact ⟨t, rfl⟩
  · cases h
theorem forms_TF {K : PySem.W.Frag} {dF : Addr} (h : textsB K dF formsA = true) : ∀ x ∈ formsL, ∃ tk, PySem.W.nsIn K dF x.1 = some (some (.str x.2 tk)) := fun x hx => by
  obtain ⟨r, h1, h2⟩ := forms_TA h x.1
  have z : ∀ x ∈ formsL, FT x.1 = some x.2 := by decide +kernel
  rw [z x hx] at h2
  obtain ⟨t, ht⟩ := h2
  cases r with
  | none => cases ht
  | some v =>
    have ht : v = .str x.2 t := ht
    exact ⟨t, by rw [h1, ht]⟩
end Hs
namespace Hs
open PySem PySem.Spec PyProof.Rows L2 Evl
/-- the error BadText, with its row -/
theorem BadText_ok {P : Program} {w : World} {K : PySem.W.Frag} {mg : Str → Option Value} {base : Heap} (hP : (P.main.file : Str) = "/claim/cut.py") (hPs : (P.main.scope.names.lookup ("super" : Str)).isSome = false) (gs : mg "super" = none) (gx : mg "BadText" = some (.ref (He.ga K "BadText")))
    (h : errB K dBadText = true) (e : fnC K dBadText.cls = dBadText.val) (hr : He.eqO (PySem.W.findIn K (.ref (He.ga K "BadText")) "row") (some none) = true) : ErrR P w K mg base 1 "BadText" (He.ga K "BadText") "badtext" := by
  obtain ⟨h1, h⟩ := He.ba h
  obtain ⟨h2, h⟩ := He.ba h
  obtain ⟨h3, h⟩ := He.ba h
  obtain ⟨h4, h⟩ := He.ba h
  obtain ⟨h5, h⟩ := He.ba h
  obtain ⟨h6, h⟩ := He.ba h
  obtain ⟨h7, h⟩ := He.ba h
  obtain ⟨h8, h9⟩ := He.ba h
  obtain ⟨c, cc, fd, I0, hf, hc⟩ := iniB_ok e h2
  have ox := oexB_ok h1
  have T : SupC P K mg (He.ga K "BadText") c cc "ValueError" "ValueError.__new__" "ValueError.__init__" (tailOf "ValueError") := ⟨ox, by rw [hP]; exact hf, hc, of_decide_eq_true h3, He.eqO_ok h4, of_decide_eq_true h5, He.eqO_ok h6, gs, hPs⟩
  have G : FnOk P w K mg base CX0 1 (iniA K "BadText") fd ["self", "row"] (spErrR (He.ga K "BadText") "badtext") := err_okR (p4 := { line := 0, col := 0, endLine := 0, endCol := 0 }) (st := sBadText) basV T I0 (He.eqO_ok h9) (He.eqO_ok hr) (by decide +kernel) (by decide +kernel) rfl
    (NdefX.nscope_by (by decide +kernel)) rfl rfl rfl rfl rfl (fun _ => rfl) (fun _ => rfl) (fun _ => rfl) (fun _ => rfl) (fun _ => rfl) (fun _ => rfl)
  obtain ⟨oc, od, dV, kV, doc, pm, an, ct, osl, rfl, lk, hcd, hD⟩ := I0
  rcases hD with ⟨z, _⟩ | ⟨_, Ta, o, its, m, rfl, lT, oT, rT⟩
  · cases z
  · have hits : ∃ d, its = [d] := by
      have l := rT.length
      match its, l with
      | [d], _ => exact ⟨d, rfl⟩
    obtain ⟨d, rfl⟩ := hits
    refine ⟨⟨_, _, _, _, basV, ox⟩, gx, _, _, _, He.eqO_ok h7, of_decide_eq_true h8, G, ?_⟩
    intro s us X hlen
    match us, hlen with
    | [_, _], _ =>
      refine BindsTo.of_looks fun M => ?_
      exact looks_items X lT oT (.of_pure rfl)
theorem facts {P : Program} {w : World} {K : PySem.W.Frag} {h : Heap} {mg : Str → Option Value} {f : Addr} (hP : (P.main.file : Str) = "/claim/cut.py") (hPs : (P.main.scope.names.lookup ("super" : Str)).isSome = false) (X : K.In h) (G : h.Ns mainGlobals mg) (hfa : mg ("law" : Str) = some (.ref f)) (c : SaysY fa fn tb [("law", none)] [dBadText] exB w h K) :
    ∃ (fd : FuncData) (cc pt : Addr), h.get? pt = some { cls := .none, data := .fields #[] } ∧ K.lookup pt = none ∧ PySem.W.CodeHd h cc pt ∧ (∀ (s : Shared) (v : Value), BindsTo s fd ⟨[v], []⟩ [("_law_script", v)]) ∧ ∀ base : Heap, LamX.TabB base mg cc pt → FnOk P w K mg base CX0 9 f fd ["_law_script"] (spLaw K [(pt, lamQ)]) := by
  have cd := c.x.t.d
  obtain ⟨fd_is_number, F_is_number⟩ : ∃ fd, FnP K "is_number" sIsNum (He.ga K "is_number") fd := cd.def_ 0 (d := dsIsNum) rfl
  have m_is_number := He.glo_ok X G (cd.fact 0 (f := .glo "is_number") rfl)
  obtain ⟨fd_read_thing, F_read_thing⟩ : ∃ fd, FnP K "read_thing" sReadTh (He.ga K "read_thing") fd := cd.def_ 1 (d := dsReadTh) rfl
  have m_read_thing := He.glo_ok X G (cd.fact 1 (f := .glo "read_thing") rfl)
  obtain ⟨fd_read_numbers, F_read_numbers⟩ : ∃ fd, FnP K "read_numbers" sReadNs (He.ga K "read_numbers") fd := cd.def_ 2 (d := dsReadNs) rfl
  have m_read_numbers := He.glo_ok X G (cd.fact 2 (f := .glo "read_numbers") rfl)
  obtain ⟨fd_read_choices, F_read_choices⟩ : ∃ fd, FnP K "read_choices" sReadCh (He.ga K "read_choices") fd := cd.def_ 3 (d := dsReadCh) rfl
  have m_read_choices := He.glo_ok X G (cd.fact 3 (f := .glo "read_choices") rfl)
  obtain ⟨fd_read_row, F_read_row⟩ : ∃ fd, FnP K "read_row" sReadRow (He.ga K "read_row") fd := cd.def_ 4 (d := dsReadRow) rfl
  have m_read_row := He.glo_ok X G (cd.fact 4 (f := .glo "read_row") rfl)
  obtain ⟨fd_read_from, F_read_from⟩ : ∃ fd, FnP K "read_from" sReadFrom (He.ga K "read_from") fd := cd.def_ 5 (d := dsReadFrom) rfl
  have m_read_from := He.glo_ok X G (cd.fact 5 (f := .glo "read_from") rfl)
  obtain ⟨fd_read_deed, F_read_deed⟩ : ∃ fd, FnP K "read_deed" sReadDeed (He.ga K "read_deed") fd := cd.def_ 6 (d := dsReadDeed) rfl
  have m_read_deed := He.glo_ok X G (cd.fact 6 (f := .glo "read_deed") rfl)
  obtain ⟨fd__law_same, F__law_same⟩ : ∃ fd, FnP K "_law_same" sSame (He.ga K "_law_same") fd := cd.def_ 7 (d := dsSame) rfl
  have m__law_same := He.glo_ok X G (cd.fact 7 (f := .glo "_law_same") rfl)
  obtain ⟨fd__law_tried, F__law_tried⟩ : ∃ fd, FnP K "_law_tried" sTried (He.ga K "_law_tried") fd := cd.def_ 8 (d := dsTried) rfl
  have m__law_tried := He.glo_ok X G (cd.fact 8 (f := .glo "_law_tried") rfl)
  obtain ⟨fd__law_pull, F__law_pull⟩ : ∃ fd, FnP K "_law_pull" sPull (He.ga K "_law_pull") fd := cd.def_ 9 (d := dsPull) rfl
  have m__law_pull := He.glo_ok X G (cd.fact 9 (f := .glo "_law_pull") rfl)
  obtain ⟨fd__law_bag, F__law_bag⟩ : ∃ fd, FnP K "_law_bag" sBag (He.ga K "_law_bag") fd := cd.def_ 10 (d := dsBag) rfl
  have m__law_bag := He.glo_ok X G (cd.fact 10 (f := .glo "_law_bag") rfl)
  obtain ⟨fd__law_one, F__law_one⟩ : ∃ fd, FnP K "_law_one" sOne (He.ga K "_law_one") fd := cd.def_ 11 (d := dsOne) rfl
  have m__law_one := He.glo_ok X G (cd.fact 11 (f := .glo "_law_one") rfl)
  obtain ⟨fd__law_wide_number, F__law_wide_number⟩ : ∃ fd, FnP K "_law_wide_number" sWideN (He.ga K "_law_wide_number") fd := cd.def_ 12 (d := dsWideN) rfl
  have m__law_wide_number := He.glo_ok X G (cd.fact 12 (f := .glo "_law_wide_number") rfl)
  obtain ⟨fd__law_word, F__law_word⟩ : ∃ fd, FnP K "_law_word" sWordL (He.ga K "_law_word") fd := cd.def_ 13 (d := dsWordL) rfl
  have m__law_word := He.glo_ok X G (cd.fact 13 (f := .glo "_law_word") rfl)
  obtain ⟨fd__law_wide_deed, F__law_wide_deed⟩ : ∃ fd, FnP K "_law_wide_deed" sWideD (He.ga K "_law_wide_deed") fd := cd.def_ 14 (d := dsWideD) rfl
  have m__law_wide_deed := He.glo_ok X G (cd.fact 14 (f := .glo "_law_wide_deed") rfl)
  obtain ⟨fd__law_row_text, F__law_row_text⟩ : ∃ fd, FnP K "_law_row_text" sLRow (He.ga K "_law_row_text") fd := cd.def_ 15 (d := dsLRow) rfl
  have m__law_row_text := He.glo_ok X G (cd.fact 15 (f := .glo "_law_row_text") rfl)
  obtain ⟨fd__law_figures, F__law_figures⟩ : ∃ fd, FnP K "_law_figures" sFig (He.ga K "_law_figures") fd := cd.def_ 16 (d := dsFig) rfl
  have m__law_figures := He.glo_ok X G (cd.fact 16 (f := .glo "_law_figures") rfl)
  obtain ⟨fd__law_figures_all, F__law_figures_all⟩ : ∃ fd, FnP K "_law_figures_all" sFigs (He.ga K "_law_figures_all") fd := cd.def_ 17 (d := dsFigs) rfl
  have m__law_figures_all := He.glo_ok X G (cd.fact 17 (f := .glo "_law_figures_all") rfl)
  obtain ⟨fd__law_read_row, F__law_read_row⟩ : ∃ fd, FnP K "_law_read_row" sLRd (He.ga K "_law_read_row") fd := cd.def_ 18 (d := dsLRd) rfl
  have m__law_read_row := He.glo_ok X G (cd.fact 18 (f := .glo "_law_read_row") rfl)
  obtain ⟨fd__law_read_at, F__law_read_at⟩ : ∃ fd, FnP K "_law_read_at" sRAt (He.ga K "_law_read_at") fd := cd.def_ 19 (d := dsRAt) rfl
  have m__law_read_at := He.glo_ok X G (cd.fact 19 (f := .glo "_law_read_at") rfl)
  obtain ⟨fd__law_text_due, F__law_text_due⟩ : ∃ fd, FnP K "_law_text_due" sTDue (He.ga K "_law_text_due") fd := cd.def_ 20 (d := dsTDue) rfl
  have m__law_text_due := He.glo_ok X G (cd.fact 20 (f := .glo "_law_text_due") rfl)
  obtain ⟨fd__law_spoilt, F__law_spoilt⟩ : ∃ fd, FnP K "_law_spoilt" sSpoil (He.ga K "_law_spoilt") fd := cd.def_ 21 (d := dsSpoil) rfl
  have m__law_spoilt := He.glo_ok X G (cd.fact 21 (f := .glo "_law_spoilt") rfl)
  obtain ⟨fd_law, F_law⟩ : ∃ fd, FnP K "law" sLaw (He.ga K "law") fd := cd.def_ 22 (d := dsLaw) rfl
  have m_law := He.glo_ok X G (cd.fact 22 (f := .glo "law") rfl)
  have m_BadText := He.glo_ok X G (cd.fact 23 (f := .glo "BadText") rfl)
  have m_ShadeError := He.glo_ok X G (cd.fact 24 (f := .glo "ShadeError") rfl)
  have m_Missing := He.glo_ok X G (cd.fact 25 (f := .glo "Missing") rfl)
  have m_Crowded := He.glo_ok X G (cd.fact 26 (f := .glo "Crowded") rfl)
  have m_NoThing := He.glo_ok X G (cd.fact 27 (f := .glo "NoThing") rfl)
  have m_NoLook := He.glo_ok X G (cd.fact 28 (f := .glo "NoLook") rfl)
  have m_Looked := He.glo_ok X G (cd.fact 29 (f := .glo "Looked") rfl)
  have m_FORMS := He.glo_ok X G (cd.fact 30 (f := .glo "FORMS") rfl)
  have g_len := He.free_ok X G (cd.fact 31 (f := .free "len") rfl)
  have g_list := He.free_ok X G (cd.fact 32 (f := .free "list") rfl)
  have g_int := He.free_ok X G (cd.fact 33 (f := .free "int") rfl)
  have g_str := He.free_ok X G (cd.fact 34 (f := .free "str") rfl)
  have g_bool := He.free_ok X G (cd.fact 35 (f := .free "bool") rfl)
  have g_tuple := He.free_ok X G (cd.fact 36 (f := .free "tuple") rfl)
  have g_isinstance := He.free_ok X G (cd.fact 37 (f := .free "isinstance") rfl)
  have g_all := He.free_ok X G (cd.fact 38 (f := .free "all") rfl)
  have g_range := He.free_ok X G (cd.fact 39 (f := .free "range") rfl)
  have g_zip := He.free_ok X G (cd.fact 40 (f := .free "zip") rfl)
  have g_min := He.free_ok X G (cd.fact 41 (f := .free "min") rfl)
  have g_super := He.free_ok X G (cd.fact 42 (f := .free "super") rfl)
  obtain ⟨es_FORMS, n_FORMS, D_FORMS⟩ : ∃ es n, KDict K w (He.ga K "FORMS") es n := c.x.t.tab 0
  have ef : f = He.ga K "law" := by
    have e := hfa.symm.trans m_law
    cases e
    rfl
  subst ef
  have x0 : (wordRB K (He.ga K "BadText") (He.ga K "NoThing") (He.ga K "NoLook") (He.ga K "Looked") (He.ga K "BadText") && (He.eqO (PySem.W.findIn K (.ref (He.ga K "BadText")) "row") (some none) && (textsB K (He.ga K "FORMS") ([("lamp", "nnnnn"), ("unsure", "c"), ("post", "nnnn"), ("pane", "nnnns"), ("move", "wnnn"), ("switch", "n"), ("drop", "wn"), ("look", "nnnnn"), ("strike", "n"), ("settle", "nn"), ("many", "d")] : List (Str × Str))))) = true := c.x.more
  obtain ⟨xm_rb, x0⟩ := He.ba x0
  obtain ⟨xm_nr, x0⟩ := He.ba x0
  have xm_fm := x0
  obtain ⟨erB_BadText, erV_BadText⟩ := c.er dBadText (by simp)
  have Er_BadText : ∀ base : Heap, ErrR P w K mg base 1 "BadText" (He.ga K "BadText") "badtext" := fun base => BadText_ok hP hPs g_super m_BadText erB_BadText erV_BadText xm_nr
  have hb := FunD.bindsA (ps := ["_law_script"]) F_law (fun _ _ _ _ _ _ us hl => match us, hl with | [_], _ => rfl)
  obtain ⟨oc, od, dV, kV, doc, pm, an, cdv, ctt, osl, rfl, lk, hcd, _, _⟩ := F_law.ex
  obtain ⟨cc, rfl⟩ := He.codeIn_ref hcd
  have ecc : He.codeOf K ("law", none) = cc := He.codeOf_eq (p := ("law", none)) lk rfl
  refine ⟨_, cc, He.tabOf K cc, ?_, ?_, ?_, fun s v => hb s [v] rfl, fun base TB => ?_⟩
  · have z := c.x.empty ("law", none) (List.mem_singleton.mpr rfl)
    rw [← ecc]
    exact z
  · have z := c.x.out ("law", none) (List.mem_singleton.mpr rfl)
    rw [← ecc]
    exact z
  · have z := c.x.hd ("law", none) (List.mem_singleton.mpr rfl)
    rw [← ecc]
    exact PySem.W.codeHd_of_K X z
  have TA := forms_TA (K := K) (dF := (He.ga K "FORMS")) xm_fm
  have TF := forms_TF (K := K) (dF := (He.ga K "FORMS")) xm_fm
  have wB := wordRB_ok xm_rb
  have ct : Cats mg (He.ga K "NoThing") (He.ga K "NoLook") (He.ga K "Looked") (He.ga K "BadText") (He.ga K "ShadeError") (He.ga K "Missing") (He.ga K "Crowded") := ⟨m_NoThing, m_NoLook, m_Looked, m_BadText, m_ShadeError, m_Missing, m_Crowded⟩
  have OA : ∀ base : Heap, OwnX P w K mg base 6 "read_deed" ["text"] [] (spDeedA K (He.ga K "BadText")) := fun base => by
    have O_is_number := own_of F_is_number m_is_number (ok_numA (P := P) (w := w) (mg := mg) (base := base) F_is_number g_len g_str g_int) (fun _ _ _ _ _ _ us hl => match us, hl with | [_], _ => rfl)
    have O_read_thing := own_of F_read_thing m_read_thing (ok_thA (P := P) (w := w) (mg := mg) (base := base) F_read_thing O_is_number g_int) (fun _ _ _ _ _ _ us hl => match us, hl with | [_, _], _ => rfl)
    have O_read_numbers := own_of F_read_numbers m_read_numbers (ok_nsA (P := P) (w := w) (mg := mg) (base := base) F_read_numbers O_is_number g_int g_all g_tuple) (fun _ _ _ _ _ _ us hl => match us, hl with | [_], _ => rfl)
    have O_read_choices := own_of F_read_choices m_read_choices (ok_chA (P := P) (w := w) (mg := mg) (base := base) F_read_choices O_read_numbers g_len g_range g_tuple) (fun _ _ _ _ _ _ us hl => match us, hl with | [_], _ => rfl)
    have O_read_row := own_of F_read_row m_read_row (ok_rowA (P := P) (w := w) (mg := mg) (base := base) F_read_row D_FORMS TA ⟨m_FORMS, rfl⟩ O_read_choices O_read_thing g_len g_zip) (fun _ _ _ _ _ _ us hl => match us, hl with | [_], _ => rfl)
    have X_read_from : OwnX P w K mg base 5 "read_from" ["rows", "first"] [] _ := ⟨_, _, [], ok_fromA (P := P) (w := w) (mg := mg) (base := base) F_read_from (Er_BadText base) O_read_row g_len g_range g_min g_tuple, m_read_from, F_read_from.kp, .nil, F_read_from.bindsN (fun _ _ _ _ _ _ us hl => match us, hl with | [_, _], _ => rfl)⟩
    have X_read_deed : OwnX P w K mg base 6 "read_deed" ["text"] [] _ := ⟨_, _, [], ok_deedA (P := P) (w := w) (mg := mg) (base := base) F_read_deed (Er_BadText base) X_read_from g_len, m_read_deed, F_read_deed.kp, .nil, F_read_deed.bindsN (fun _ _ _ _ _ _ us hl => match us, hl with | [_], _ => rfl)⟩
    exact X_read_deed
  have OR : ∀ base : Heap, Own P w K mg base 8 "_law_tried" ["_law_act"] (spTriedR P w K mg base 7 lamQ (He.ga K "NoThing") (He.ga K "NoLook") (He.ga K "Looked") (He.ga K "BadText") (He.ga K "ShadeError") (He.ga K "Missing") (He.ga K "Crowded")) := fun base => own_of F__law_tried m__law_tried (ok_triedR (k := 7) (q := lamQ) F__law_tried ct) (fun _ _ _ _ _ _ us hl => match us, hl with | [_], _ => rfl)
  have O__law_same := own_of F__law_same m__law_same (ok_same (P := P) (w := w) (base := base) F__law_same m__law_same g_len g_isinstance g_bool g_int g_str g_list g_tuple g_all g_range 7) (fun _ _ _ _ _ _ us hl => match us, hl with | [_, _], _ => rfl)
  have O__law_pull := own_of F__law_pull m__law_pull (ok_pull (P := P) (w := w) (mg := mg) (base := base) F__law_pull g_len) (fun _ _ _ _ _ _ us hl => match us, hl with | [_, _], _ => rfl)
  have O__law_bag := own_of F__law_bag m__law_bag (ok_bag (P := P) (w := w) (mg := mg) (base := base) F__law_bag g_len g_list) (fun _ _ _ _ _ _ us hl => match us, hl with | [_], _ => rfl)
  have O__law_one := own_of F__law_one m__law_one (ok_one (P := P) (w := w) (mg := mg) (base := base) F__law_one O__law_pull g_len) (fun _ _ _ _ _ _ us hl => match us, hl with | [_, _], _ => rfl)
  have O__law_wide_number := own_of F__law_wide_number m__law_wide_number (ok_wideN (P := P) (w := w) (mg := mg) (base := base) F__law_wide_number O__law_pull) (fun _ _ _ _ _ _ us hl => match us, hl with | [_], _ => rfl)
  have O__law_word := own_of F__law_word m__law_word (ok_wordL (P := P) (w := w) (mg := mg) (base := base) F__law_word O__law_one) (fun _ _ _ _ _ _ us hl => match us, hl with | [_], _ => rfl)
  have O__law_wide_deed := own_of F__law_wide_deed m__law_wide_deed (ok_wideD (P := P) (w := w) (mg := mg) (base := base) F__law_wide_deed TF O__law_pull O__law_one O__law_wide_number O__law_word g_range g_tuple) (fun _ _ _ _ _ _ us hl => match us, hl with | [_], _ => rfl)
  have O__law_row_text := own_of F__law_row_text m__law_row_text (ok_lRow (P := P) (w := w) (mg := mg) (base := base) F__law_row_text g_str) (fun _ _ _ _ _ _ us hl => match us, hl with | [_], _ => rfl)
  have O__law_figures := own_of F__law_figures m__law_figures (ok_fig (P := P) (w := w) (mg := mg) (base := base) F__law_figures g_len g_all g_int) (fun _ _ _ _ _ _ us hl => match us, hl with | [_], _ => rfl)
  have O__law_figures_all := own_of F__law_figures_all m__law_figures_all (ok_figs (P := P) (w := w) (mg := mg) (base := base) F__law_figures_all O__law_figures g_tuple) (fun _ _ _ _ _ _ us hl => match us, hl with | [_], _ => rfl)
  have O__law_read_row := own_of F__law_read_row m__law_read_row (ok_lRd (P := P) (w := w) (mg := mg) (base := base) F__law_read_row O__law_figures_all g_len g_all g_tuple) (fun _ _ _ _ _ _ us hl => match us, hl with | [_], _ => rfl)
  have O__law_read_at := own_of F__law_read_at m__law_read_at (ok_rAt (P := P) (w := w) (mg := mg) (base := base) F__law_read_at O__law_figures O__law_read_row g_len g_min g_tuple) (fun _ _ _ _ _ _ us hl => match us, hl with | [_, _], _ => rfl)
  have O__law_text_due := own_of F__law_text_due m__law_text_due (ok_tDue (P := P) (w := w) (mg := mg) (base := base) F__law_text_due O__law_read_at g_len) (fun _ _ _ _ _ _ us hl => match us, hl with | [_], _ => rfl)
  have O__law_spoilt := own_of F__law_spoilt m__law_spoilt (ok_spoil (P := P) (w := w) (mg := mg) (base := base) F__law_spoilt O__law_pull O__law_one g_len g_int) (fun _ _ _ _ _ _ us hl => match us, hl with | [_, _], _ => rfl)
  refine L2.fn_of lk hcd scLaw (fun vs H Q E h => ?_) (fun A outer s H vs Q E hr h => law_body hr O__law_bag O__law_pull O__law_wide_deed O__law_row_text O__law_spoilt O__law_text_due O__law_same (fun base' _ => OA base') (fun base' _ => OR base') TB g_range g_len g_str wB h)
  obtain ⟨a, ns, rfl, _⟩ := h
  rfl
end Hs
open PySem PySem.W PySem.Calls PyProof.Rows
theorem PySem.Challenge.cw_hueshade_k54_texts_of_no_deed_holds : PySem.Challenge.rw_hueshade_k54_texts_of_no_deed.Holds := by
  w_on; o_law
  refine HandSHeadRun.head_any (r := OpenLaw.row PySem.Challenge.rw_hueshade_k54_texts_of_no_deed) (q := view (OpenLaw.row PySem.Challenge.rw_hueshade_k54_texts_of_no_deed).prog [33]) (H := Hs.hk) (ob := Hs.ob) (M := 20000) (loose := Hs.others) (d := HandSHeadRun.topDef (OpenLaw.row PySem.Challenge.rw_hueshade_k54_texts_of_no_deed).prog 33) (kwd := []) Hs.ob_eq
    (by kernel_rfl) (fun s => by kernel_rfl) Hs.run (by kernel_rfl) (by kernel_rfl) (by kernel_rfl) (by rfl) (by first | assumption | decide +kernel) (by decide +kernel) ⟨rfl, rfl, rfl, rfl, rfl, by decide +kernel⟩ ?hw ?hc
  case hw => w_witness2
  case hc =>
    refine LamX.walk_ofTsE (l := PySem.Challenge.rw_hueshade_k54_texts_of_no_deed) (n := 63) (k := 9) (x := "_law_script") (CX := fun _ => L2.CX0) rfl (by decide) (by kernel_rfl) ⟨rfl, by decide, by decide⟩ ?F (fun _ _ _ _ _ z => z)
    intro w mg fa h Y G hmg0
    obtain ⟨K, KX, c⟩ := Y
    have hmg : mg ("law" : PySem.Str) = some (.ref fa) := by
      have e : (HandSHeadRun.topDef (OpenLaw.row PySem.Challenge.rw_hueshade_k54_texts_of_no_deed).prog 33).name = ("law" : PySem.Str) := by kernel_rfl
      rw [← e]
      exact hmg0
    obtain ⟨fd, cc, pt, h1, h2, h3, hb, hF⟩ := Hs.facts (P := (PySem.Challenge.rw_hueshade_k54_texts_of_no_deed).prog) (w := w) (by kernel_rfl) (by kernel_rfl) KX G hmg c
    refine ⟨K, KX, fd, [(cc, pt)], Hs.spLaw K [(pt, Hs.lamQ)], fun p hp => ?_, fun p hp => ?_, fun p hp => ?_, hb, fun H a ns hl _ hT hS => ⟨a, ns, rfl, hS, hl, fun p hp => ?_, fun _ => rfl⟩, fun base _ _ hB => hF base (hB (cc, pt) (List.mem_singleton.mpr rfl))⟩
    · rw [List.mem_singleton.mp hp]
      exact h1
    · rw [List.mem_singleton.mp hp]
      exact h2
    · rw [List.mem_singleton.mp hp]
      exact h3
    · rw [List.mem_singleton.mp hp]
      exact LamX.TabS.nil (hT (cc, pt) (List.mem_singleton.mpr rfl))
