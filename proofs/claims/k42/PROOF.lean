import PyProof.Rows.All
import Wide.All
import OpenK.AllK
import Wide.FinOn
import HandS.ForMost
import HandS.ForExc
import HandS.Wide
import HandS.IsInst
import HandS.Lambda
import HandS.Defaults
import HandS.Evl
import HandS.Codes
import HandS.Style
import HandS.More
import HandS.FStr
import HandS.TryMany
import HandS.ExcField
import HandS.NoneIn
import HandS.ExcInit
import HandS.ExcSuper
import KE.KExcSuper
import KE.KExcInit
import KE.DatumOrd
import HandS.Zip
import HandS.Walk
import HandS.Rev
import HandS.TupAny
import HandS.DictComp
import HandS.CallLocal
import HandS.Star
import HandS.Flow
import HandS.Nested
import HandS.TupMul
import HandS.Head0
import HandS.Head1
import HandS.Head2
import HandS.HeadEnd
import HandS.HeadHook1
import HandS.HeadHook2
import HandS.HeadHook3
import HandS.HeadHook4
import HandS.HeadWalk
import HandS.SortKw
import HandS.SortRule
import KE.DataFind
import HandS.TupSets
import HandS.Deep
import KE.KSortKeySt
import PySem.Challenge.RW_hueshade_k42_things_put_on_a_floor
set_option Elab.async false
set_option linter.all false
set_option maxRecDepth 100000
set_option maxHeartbeats 0
namespace Hs
open PySem PySem.Spec PyProof.Rows L2 Evl
/-! ### own words -/
/-- // by any divisor but nought, below 2 ^ 9000 -/
def CDivG (i j : Int) : Prop := j ≠ 0 ∧ (j.natAbs.log2 < 9000 ∨ i.natAbs.log2 < 13400)
theorem noPylong_x {x y : Int} (h : x.natAbs.log2 < 13400) : Builtin.divisionGoesByPylong x y = false := by
  have key : (if x == 0 then 0 else x.natAbs.log2 / 30 + 1) ≤ 450 := by
    by_cases hx : (x == 0) = true
    · rw [if_pos hx]
      exact Nat.zero_le _
    · rw [if_neg hx]
      omega
  show (decide ((if y == 0 then 0 else y.natAbs.log2 / 30 + 1) > 300) && decide ((if x == 0 then 0 else x.natAbs.log2 / 30 + 1) > (if y == 0 then 0 else y.natAbs.log2 / 30 + 1) + 150)) = false
  generalize (if y == 0 then 0 else y.natAbs.log2 / 30 + 1) = b
  generalize (if x == 0 then 0 else x.natAbs.log2 / 30 + 1) = a at key
  by_cases hb : b > 300
  · rw [decide_eq_false (show ¬ a > b + 150 by omega), Bool.and_false]
  · rw [decide_eq_false hb, Bool.false_and]
theorem op_fdivG {X : Cx} : OpR X (binaryOp .FloorDiv) (rI CDivG fun i j => .int (i.fdiv j)) := opI fun i j _ _ _ _ _ hc q => floordiv_int hc.1 q (.inl (hc.2.elim PyProof.noPylong_of_log2 noPylong_x))
theorem divG {i j : Int} {b : Nat} (h : j ≠ 0) (hb : j.natAbs < 2 ^ b) (h0 : 0 < b) (h9 : b ≤ 9000) : CDivG i j := ⟨h, .inl (Nat.lt_of_lt_of_le (PySem.Flt.log2_lt_of h0 hb) h9)⟩
theorem mul64 {i j : Int} (ha : i.natAbs < 2 ^ 64) (hb : j.natAbs < 2 ^ 64) : CMulW i j := wide_mul ha hb (by decide) (by decide) (by decide)
theorem modP {i j : Int} (h : 0 < j) : 0 ≤ i.fmod j ∧ i.fmod j < j := by
  rw [Int.fmod_eq_emod_of_nonneg i (Int.le_of_lt h)]
  exact ⟨Int.emod_nonneg i (by omega), Int.emod_lt_of_pos i h⟩
/-- an own def by its promise -/
structure Own (P : Program) (w : World) (K : PySem.W.Frag) (mg : Str → Option Value) (base : Heap) (k : Nat) (x : Str) (ps : List Str) (sp : Sp) : Prop where
  ex : ∃ (f : Addr) (fd : FuncData), FnOk P w K mg base CX0 k f fd ps sp ∧ mg x = some (.ref f) ∧ PySem.W.keepIn K (.ref f) = true ∧ Binds K fd ps []
theorem pe_own {X : Cx} {k j : Nat} {x : Str} {ps : List Str} {sp : Sp} {e : Expr} {es : List Expr} {t : TA} {p pos : Pos} (O : Own X.prog X.w X.K X.mg X.base k x ps sp) (hr : Room j X.A) (hk : k ≤ j) (hg : Gl X x) (ha : PA X (e :: es) t)
    (hdb : (x == ("__debug__" : Str)) = false := by decide) (he : starEach (e :: es) X.env = (false, eval e X.env) :: starEach es X.env := by rfl) (hpl : (backTo pos (starEach es X.env)).any (·.1) = false := by rfl) :
    PE X (.Call (.Name x p) (e :: es) [] pos) (tCall sp [] E0 t) := by
  obtain ⟨f, fd, F, m, kp, b⟩ := O.ex
  exact pe_call F (hr.mono hk) hg m kp b .nil pass0 ha hdb he hpl
abbrev FnP (K : PySem.W.Frag) (x : Str) (st : Stmt) (f : Addr) (fd : FuncData) : Prop := FunD K x x (defArgs st) (defBody st) (defScope st) [] [] f fd
theorem own_of {P : Program} {w : World} {K : PySem.W.Frag} {mg : Str → Option Value} {base : Heap} {k : Nat} {x : Str} {ps : List Str} {sp : Sp} {st : Stmt} {f : Addr} {fd : FuncData} (F : FnP K x st f fd) (m : mg x = some (.ref f)) (G : FnOk P w K mg base CX0 k f fd ps sp)
    (h : ∀ (kV doc pm : Value) (an : Option Addr) (cdv ct : Value) (us : List Value), us.length = ps.length → bindArgs (PySem.W.fnOf x x (defArgs st) (defBody st) (defScope st) .none kV doc pm an cdv ct) ⟨us, []⟩ = pure (ps.zip us)) : Own P w K mg base k x ps sp :=
  ⟨f, fd, G, m, F.kp, F.bindsN h⟩
theorem ev_ix {K : PySem.W.Frag} {σ : L2.St} {H : Hp} {b : Addr} {xs : List V} {i : Int} {v : V} {j : Nat} (hs : σ[j]? = some (some (.ref b))) (hb : H b = some (.lst xs)) (ha : atI xs i = some v) : Ev (tOp (rIxL K) (tVar j) (tC (.int i))) σ H v :=
  ev_op (ev_var hs) ev_c (rv_ixL (sq_of hb) ha)
theorem ev_ixt {K : PySem.W.Frag} {σ : L2.St} {H : Hp} {b : Addr} {xs : List V} {i : Int} {v : V} {j : Nat} (hs : σ[j]? = some (some (.ref b))) (hb : SqT K H b xs) (ha : atI xs i = some v) : Ev (tOp (rIxT K) (tVar j) (tC (.int i))) σ H v :=
  ev_op (ev_var hs) ev_c (rv_ixT hb ha)
theorem ite_T {c : Bool} {A B : Prop} (hc : c = true) (h : A) : if c = true then A else B := by
  rw [if_pos hc]
  exact h
theorem ite_F {c : Bool} {A B : Prop} (hc : c = false) (h : B) : if c = true then A else B := by
  rw [hc, if_neg Bool.false_ne_true]
  exact h
/-! ### the bag that draws -/
structure BagAt (H : Hp) (b l : Addr) (ns : List Int) (n : Nat) : Prop where
  ex : ∃ (i : Nat) (z s : Int) (c : Nat), H b = some (.lst [.ref l, .int i, .int z, .int s, .int c]) ∧ i ≤ ns.length ∧ 0 ≤ s ∧ s < 2147483647 ∧ c ≤ n
  ls : H l = some (.lst (ns.map V.int))
  ne : b ≠ l
/-- all but the object at b stays -/
def But (H H' : Hp) (b : Addr) : Prop := ∀ a o, H a = some o → a ≠ b → H' a = some o
theorem But.refl {H : Hp} {b : Addr} : But H H b := fun _ _ e _ => e
theorem But.trans {H H1 H2 : Hp} {b : Addr} (x : But H H1 b) (y : But H1 H2 b) : But H H2 b := fun a o e n => y a o (x a o e n) n
theorem But.ex {H H1 H2 : Hp} {b : Addr} (x : But H H1 b) (y : Ex H1 H2) : But H H2 b := fun a o e n => y a o (x a o e n)
theorem But.of {H H1 : Hp} {b : Addr} (y : Ex H H1) : But H H1 b := fun a o e _ => y a o e
theorem But.upd {H H1 : Hp} {b : Addr} {u : HO} (x : But H H1 b) : But H (upd H1 b u) b := fun a o e n => by
  rw [upd_ne n]
  exact x a o e n
theorem BagAt.ext {H H1 : Hp} {b l : Addr} {ns : List Int} {n m : Nat} (B : BagAt H b l ns n) (e : Ex H H1) (h : n ≤ m) : BagAt H1 b l ns m := by
  obtain ⟨⟨i, z, s, c, h1, h2, h3, h4, h5⟩, h6, h7⟩ := B
  exact ⟨⟨i, z, s, c, e _ _ h1, h2, h3, h4, Nat.le_trans h5 h⟩, e _ _ h6, h7⟩
def spPull : Sp := fun vs H Q _ => ∃ (b l : Addr) (ns : List Int) (n : Nat) (many : Int), vs = [.ref b, .int many] ∧ BagAt H b l ns n ∧ n < 1000000 ∧ 0 < many ∧ many < 2 ^ 200 ∧
  ∀ (v : Int) (H' : Hp), 0 ≤ v → v < many → BagAt H' b l ns (n + 1) → But H H' b → Q (.int v) H'
def spBag (K : PySem.W.Frag) : Sp := fun vs H Q _ => ∃ (a : Addr) (ns : List Int), vs = [.ref a] ∧ SqL K H a (ns.map V.int) ∧ ns.length ≤ 63 ∧
  ∀ (b l : Addr) (H' : Hp), H b = none → H l = none → BagAt H' b l ns 0 → Ex H H' → Q (.ref b) H'
end Hs
namespace Hs
open PySem
def top (i : Nat) : Stmt := PySem.Challenge.pw_hueshade_k42_things_put_on_a_floor.main.body.getD i (.Pass ⟨0, 0, 0, 0⟩)
end Hs
namespace Hs
open PySem PySem.Spec PyProof.Rows L2
/-! ### own error classes whose __init__ begins with super().__init__(..) -/
section
open PySem.W
variable {prog : Program} {w : World} {A : Around} {E : Value → Shared → Prop} {h : Heap} {g : Array GenState} {d : Drawn} {t : Nat} {os : OsState}
variable {nm q : Str} {C N : Addr} {bs bm bmB : List Value} {hdct : Bool} {sn : List Str} {sub : List Value} {ab : Bool} {col : Option Bool} {dd : Option Addr} {k0 k1 k2 k3 k5 : Option Value} {B newId initId : String}
theorem call_mw (FB : ExcBaseFacts B newId initId bmB) {u e t0 : Addr} {rest : List Value} {Q : Value → Shared → Prop}
    (hC : h.get? C = some (excClassObj nm q C N bs bm hdct sn sub ab col dd k0 k1 k2 k3 k5 newId)) (he : h.get? e = some (HandSPX.excO C t0)) (hu : h.get? u = some (kxs_mw initId e)) (hrest : rest.length ≤ sizeLine)
    (hq : ∀ h' t1, (∀ b o, b ≠ e → h.get? b = some o → h'.get? b = some o) → h'.get? e = some (HandSPX.excO C t1) → Q .none ⟨h', g, d, t, os⟩) :
    wpAny (model prog w) A (call (.ref u) rest) Q E ⟨h, g, d, t, os⟩ := by
  refine wpAny_call (codeAny_of_tree ?_)
  show wpAny _ A.in1 (callAny (.ref u) ⟨rest, []⟩) _ _ _
  simp only [callAny]
  refine wpAny_bind (wpAny_load hu ?_)
  simp only [kxs_mw, show (Value.type "method-wrapper" == Value.type "method" || Value.type "method-wrapper" == Value.type "builtin_function_or_method" || Value.type "method-wrapper" == Value.type "method-wrapper") = true by decide, if_true]
  refine KFB.if_so (by decide) ?_
  refine wpAny_bind (ESX.check_bound FB hC he rfl ?_)
  refine wpAny_bind (wpAny_pure (wpAny_pure ?_))
  refine ⟨plainId_quiet FB.init.plain _, codeAny_builtin FB.initEntry ?_⟩
  exact exc_init_tree (cls := .ref C) (t0 := t0) (dv := none) (c2 := .none) (c3 := .none) (b4 := .bool false) he hrest fun h' k e' _ => hq h' _ k e'
end
end Hs
namespace Hs
open PySem PySem.Spec PyProof.Rows L2
/-! ### own errors over any of Python's plain bases -/
/-- what is known of a base of Python's -/
structure BasX (B newId initId : String) (bmB : List Value) : Prop where
  eb : ExcBaseFacts B newId initId bmB
  st : StoreFacts B bmB "object.__setattr__" "object"
  kx : PySem.W.KxsFacts B initId
abbrev tailOf (B : String) : List Value := [.type B, .type "Exception", .type "BaseException", .type "object"]
theorem basV : BasX "ValueError" "ValueError.__new__" "ValueError.__init__" (tailOf "ValueError") := ⟨F.excBase_ValueError, F.store_ValueError, PySem.W.kxs_ValueError⟩
theorem basR : BasX "RuntimeError" "RuntimeError.__new__" "RuntimeError.__init__" (tailOf "RuntimeError") := ⟨F.excBase_RuntimeError, F.store_RuntimeError, PySem.W.kxs_RuntimeError⟩
/-- an own class over such a base, as it is written -/
structure OexG (K : PySem.W.Frag) (C : Addr) (newId : String) (bmB : List Value) : Prop where
  cls : ∃ nm q N bs bm sn sub ab col dd k0 k1 k2 k3 k5, K.lookup C = some (excClassObj nm q C N bs bm true sn sub ab col dd k0 k1 k2 k3 k5 newId) ∧ PySem.W.excTail bmB bm = true
  sa : PySem.W.findIn K (.ref C) "__setattr__" = some (some (.builtin "object.__setattr__"))
  exC : PySem.W.subIn K (.ref C) (.type "BaseException") = some true
  tyC : PySem.W.typeIn K (.ref C) = some (.type "type")
  kC : PySem.W.keepIn K (.ref C) = true
section
variable {K : PySem.W.Frag} {C : Addr} {newId : String} {bmB : List Value}
theorem OexG.over (T : OexG K C newId bmB) : PySem.W.excOver K C bmB = true := by
  obtain ⟨nm, q, N, bs, bm, sn, sub, ab, col, dd, k0, k1, k2, k3, k5, hC, ht⟩ := T.cls
  unfold PySem.W.excOver PySem.W.clsIn
  rw [hC]
  show ((C == C) && PySem.W.excTail bmB bm) = true
  simp [ht]
theorem OexG.cd (T : OexG K C newId bmB) : ∃ cd, PySem.W.clsIn K C = some cd ∧ cd.hasDict = true := by
  obtain ⟨nm, q, N, bs, bm, sn, sub, ab, col, dd, k0, k1, k2, k3, k5, hC, ht⟩ := T.cls
  refine ⟨{ name := nm, bases := bs, mro := .ref C :: bm, ns := N, qualname := q, hasDict := true, slotNames := sn, subclasses := sub, abstract := ab, collection := col, hasDel := false }, ?_, rfl⟩
  unfold PySem.W.clsIn
  rw [hC] <;> rfl
theorem taker_no {f : Str} (h : PySem.W.findIn K (.ref C) f = some none) : PySem.W.takerIn K C f = some none := by
  unfold PySem.W.takerIn
  rw [h] <;> rfl
end
section
open Builtin Builtin.ObjectAttr
variable {prog : Program} {w : World} {A : Around} {R : Result → Shared → Prop} {hp : Heap} {g : Array GenState} {d : Drawn} {t : Nat} {os : OsState} {K : PySem.W.Frag} {C x : Addr} {B newId initId : String} {bmB : List Value}
/-- the first field: the dict is made -/
theorem put_new (bx : BasX B newId initId bmB) (T : OexG K C newId bmB) (kin : K.In hp) {fl : Str} {tk : Tok} {u : Value} {fv : Array Value} (hx : hp.get? x = some { cls := .ref C, data := .fields fv }) (hno : PySem.W.findIn K (.ref C) fl = some none)
    (fin : ∀ hq tq dx, (∀ b o, b ≠ x → hp.get? b = some o → hq.get? b = some o) → hp.objs.size ≤ dx → dx ≠ x → hq.get? x = some { cls := .ref C, dict := some dx, data := .fields fv } → hq.Ns1 dx (fun y => if y = fl then some u else none) → R (.ok (.ret .none)) ⟨hq, g, d, tq, os⟩) :
    codeAny (model prog w) A (.call (.builtin "object.__setattr__") ⟨[.ref x, .str fl tk, u], []⟩) R ⟨hp, g, d, t, os⟩ := by
  obtain ⟨cd, hcd, hdc⟩ := T.cd
  have lk : PySem.W.Looks (model prog w) hp (classData C) cd := PySem.W.looks_clsIn kin hcd
  have far : x ≠ hp.objs.size := Nat.ne_of_lt (Heap.lt_size hx)
  refine PySem.W.osa_openX (s := ⟨hp, g, d, t, os⟩) (od := none) (ox := { cls := .ref C, data := .fields fv }) bx.st kin ⟨hx, rfl, rfl, trivial⟩ T.over (taker_no hno) fun bb => ?_
  obtain ⟨c1, c2, c3, c4, c5, c6, c7, c8, c9, c10, c11⟩ := cd
  dsimp only at hdc
  subst hdc
  unfold storeInOwnDict ownDictForStores
  repeat (first | with_reducible refine HandSPX.store_in_new ?_ ?_ | with_reducible refine wpAny_loadPart_at hx ?_ | with_reducible refine lk.at ?_ | wp_step)
  · exact ⟨_, #[], _, (Heap.get?_update_ne _ _ _ _ far.symm).trans (Heap.get?_push_at rfl rfl), rfl, fun z hz => absurd hz (by simp), fun _ => rfl⟩
  · intro hq tq hn sm
    have old : (hp.push { cls := .type "dict", data := .dict #[] }).get? x = some { cls := .ref C, data := .fields fv } := Heap.get?_push_of_some _ hx
    refine fin hq tq hp.objs.size (fun b o nb ho => ?_) (Nat.le_refl _) far.symm ((sm.2 x far).trans (Heap.get?_update_self _ old rfl)) hn
    rw [sm.2 b (Nat.ne_of_lt (Heap.lt_size ho)), Heap.get?_update_ne _ _ _ _ nb]
    exact Heap.get?_push_of_some _ ho
/-- a further field -/
theorem put_more (bx : BasX B newId initId bmB) (T : OexG K C newId bmB) (kin : K.In hp) {fl : Str} {tk : Tok} {u : Value} {fv : Array Value} {dx : Addr} {m0 : Str → Option Value} {nl : List Str} (hx : hp.get? x = some { cls := .ref C, dict := some dx, data := .fields fv }) (hns : hp.Ns1 dx m0) (hw : Within m0 nl) (hz : nl.length ≤ 1000) (hno : PySem.W.findIn K (.ref C) fl = some none)
    (fin : ∀ hq tq, (∀ b o, b ≠ dx → hp.get? b = some o → hq.get? b = some o) → hq.Ns1 dx (fun y => if y = fl then some u else m0 y) → R (.ok (.ret .none)) ⟨hq, g, d, tq, os⟩) :
    codeAny (model prog w) A (.call (.builtin "object.__setattr__") ⟨[.ref x, .str fl tk, u], []⟩) R ⟨hp, g, d, t, os⟩ := by
  obtain ⟨cd, hcd, hdc⟩ := T.cd
  have lk : PySem.W.Looks (model prog w) hp (classData C) cd := PySem.W.looks_clsIn kin hcd
  obtain ⟨oD, q1, q2, hoD, q3, q4⟩ := hns.count hw
  refine PySem.W.osa_openX (s := ⟨hp, g, d, t, os⟩) (od := some oD) (ox := { cls := .ref C, dict := some dx, data := .fields fv }) bx.st kin ⟨hx, rfl, rfl, hoD⟩ T.over (taker_no hno) fun bb => ?_
  obtain ⟨c1, c2, c3, c4, c5, c6, c7, c8, c9, c10, c11⟩ := cd
  dsimp only at hdc
  subst hdc
  unfold storeInOwnDict ownDictForStores
  repeat (first | with_reducible refine OEX.store_in_old hns hw hz ?_ | with_reducible refine wpAny_loadPart_at hx ?_ | with_reducible refine lk.at ?_ | wp_step)
  exact fun hq tq hn sm => fin hq tq (fun b o nb ho => (sm.2 b nb).trans ho) hn
end
section
variable {X : Cx} {pins : List (Addr × Obj)} {σ : L2.St} {H : Hp} {s : Shared} {a C dx : Addr} {fl : Str} {y : V} {u : Value} {fs : List (Str × V)} {Q : Unit → Shared → Prop} {E : Value → Shared → Prop} {A : Around} {B newId initId : String} {bmB : List Value}
theorem set_new (bx : BasX B newId initId bmB) (T : OexG X.K C newId bmB) (I : Inv X pins σ H s) (ea : H a = some (exo a C none)) (hno : PySem.W.findIn X.K (.ref C) fl = some none) (ry : RelV y u)
    (k : ∀ dx s', H dx = none → dx ≠ a → Inv X pins σ (upd (upd H dx (exd dx [(fl, y)])) a (exo a C (some dx))) s' → Q () s') : wpAny (model X.prog X.w) A (setAttr (.ref a) fl u) Q E s := by
  obtain ⟨t1, ho⟩ := exo_at I.hok ea
  obtain ⟨hp, g, d, t, os⟩ := s
  refine PySem.W.set_plain (od := none) I.kIn (ox := { cls := .ref C, dict := none, data := .fields #[.ref t1, .none, .none, .none, .bool false, .none] }) ⟨ho, rfl, rfl, trivial⟩ T.sa ?_
  refine put_new bx T I.kIn ho hno fun hq tq dx stay dn dne hx hn => ?_
  have fresh : H dx = none := I.hok.fresh dn
  have nda : ∀ {b : Addr}, H b = none → b ≠ a := fun nb z => by
    rw [z, ea] at nb
    cases nb
  have ndx : ∀ {b : Addr} {ob : Obj}, hp.get? b = some ob → b ≠ dx := fun qq => Nat.ne_of_lt (Nat.lt_of_lt_of_le (Heap.lt_size qq) dn)
  have two : ∀ {b : Addr} {v : HO}, H b = some v → exo a C none ≠ v → upd (upd H dx (exd dx [(fl, y)])) a (exo a C (some dx)) b = some v := fun {b v} hb hne => by
    rw [upd_ne (at_ne ea hb hne), upd_ne (ne_of_none hb fresh)]
    exact hb
  have un : Un X.fs [] H (upd (upd H dx (exd dx [(fl, y)])) a (exo a C (some dx))) hp hq := by
    constructor
    · exact fun b o hb nb _ _ => stay b o (nda nb) hb
    · exact fun b o hb nb _ _ => ⟨o.slots, stay b o (nda nb) hb⟩
    · intro b o hb nb _
      rw [upd_ne (nda nb), upd_ne (ndx hb)]
      exact nb
    · intro b o hb _
      by_cases e : b = a
      · rw [e]
        exact ⟨_, hx⟩
      · exact ⟨o, stay b o e hb⟩
    · exact fun b xs hb => two hb exo_tup
    · exact fun b o v hb => two hb exo_frz
    · intro b ps hb
      refine ⟨#[], ?_⟩
      rw [two hb exo_tbl, Array.append_empty]
  refine k dx _ fresh dne (I.un (t' := tq) un fun b o hb => ?_)
  by_cases e1 : b = a
  · rw [e1, upd_same] at hb
    cases hb
    rw [e1]
    exact exo_ok hx
  · rw [upd_ne e1] at hb
    by_cases e2 : b = dx
    · rw [e2, upd_same] at hb
      cases hb
      rw [e2]
      exact exd_ok hn (relO_put (fs := []) ry fun _ => True.intro)
    · rw [upd_ne e2] at hb
      refine (I.hok b o hb).stay (fun c v hc hv => stay c v ?_ hv) (fun c hc => two hc exo_own) (fun c xs hc => two hc exo_tup)
      rcases hc with rfl | hc
      · exact e1
      · exact at_ne ea hc exo_own
theorem set_more (bx : BasX B newId initId bmB) (T : OexG X.K C newId bmB) (I : Inv X pins σ H s) (ea : H a = some (exo a C (some dx))) (ed : H dx = some (exd dx fs)) (hl : fs.length ≤ 900) (hno : PySem.W.findIn X.K (.ref C) fl = some none) (ry : RelV y u)
    (k : ∀ s', Inv X pins σ (upd H dx (exd dx ((fl, y) :: fs))) s' → Q () s') : wpAny (model X.prog X.w) A (setAttr (.ref a) fl u) Q E s := by
  obtain ⟨t1, ho⟩ := exo_at I.hok ea
  obtain ⟨mA, hns, rel⟩ := exd_at I.hok ed
  obtain ⟨oD, _, _, hoD, _, _⟩ := hns.count (within_of rel)
  obtain ⟨hp, g, d, t, os⟩ := s
  refine PySem.W.set_plain (od := some oD) I.kIn (ox := { cls := .ref C, dict := some dx, data := .fields #[.ref t1, .none, .none, .none, .bool false, .none] }) ⟨ho, rfl, rfl, hoD⟩ T.sa ?_
  refine put_more bx T I.kIn ho hns (within_of rel) (by rw [List.length_map]; omega) hno fun hq tq stay hn => k _ ?_
  refine I.write (t' := tq) (x := dx) (e := dx) (by rw [ed]; exact True.intro) (.inl rfl) stay ?_ (exd_ok hn (relO_put ry rel))
  obtain ⟨oq, _, _, hoq, _⟩ := hn
  exact ⟨oq, hoq⟩
end
/-- self.f = e, of an error that is being made -/
def tPut (K : PySem.W.Frag) (newId : String) (bmB : List Value) (fl : Str) (to te : TE) : TS := fun D σ H => te σ H fun y H1 => to σ H1 fun x H2 => ∃ a C : Addr, x = .ref a ∧ OexG K C newId bmB ∧ PySem.W.findIn K (.ref C) fl = some none ∧
  ((H2 a = some (exo a C none) ∧ ∀ dx, H2 dx = none → dx ≠ a → D.nx σ (upd (upd H2 dx (exd dx [(fl, y)])) a (exo a C (some dx)))) ∨
    ∃ (dx : Addr) (fs : List (Str × V)), (H2 a = some (exo a C (some dx)) ∧ H2 dx = some (exd dx fs) ∧ fs.length ≤ 900) ∧ D.nx σ (upd H2 dx (exd dx ((fl, y) :: fs))))
theorem ps_put {X : Cx} {o e : Expr} {to te : TE} {fl : Str} {p' pos : Pos} {B newId initId : String} {bmB : List Value} (bx : BasX B newId initId bmB) (ho : PE X o to) (he : PE X e te) (hs : swapsWith e (some (.Attribute o fl p')) pos.line X.env = pure false := by rfl) : PS X (.Assign [.Attribute o fl p'] e pos) (tPut X.K newId bmB fl to te) := by
  refine ⟨fun pins s σ H D I h => ?_⟩
  refine plainObj_wpAny_Assign_Attribute (thn (he.run pins s σ H _ I h) fun v s1 ⟨y, H1, I1, r1, q1⟩ => thn (ho.run pins s1 σ H1 _ I1 q1) fun ux s2 ⟨x, H2, I2, r2, hh⟩ => ?_) hs
  obtain ⟨a, C, rfl, T, hno, q⟩ := hh
  obtain rfl : ux = Value.ref a := r2
  rcases q with ⟨ea, q⟩ | ⟨dx, fs, ⟨ea, ed, hl⟩, q⟩
  · exact set_new bx T I2 ea hno r1 fun dx s' n ne J => ⟨σ, _, J, q dx n ne⟩
  · exact set_more bx T I2 ea ed hl hno r1 fun s' J => ⟨σ, _, J, q⟩
end Hs
namespace Hs
open PySem PySem.Spec PyProof.Rows L2
/-- what the written part says of an own error class over ValueError, of its __init__ and of what super() asks -/
structure SupC (P : Program) (K : PySem.W.Frag) (mg : Str → Option Value) (C c cc : Addr) (B newId initId : String) (bmB : List Value) : Prop where
  ox : OexG K C newId bmB
  code : ∃ (ccl : Value) (cdd : Option Addr) (vs : Array Value) (ccs : Array (Option Value)) (file : Str) (tf : Tok), K.lookup c = some ⟨ccl, cdd, .fields vs, ccs⟩ ∧ vs[2]? = some (.str file tf) ∧ ((P.main.file : Str) == file) = true
  cell : ∃ (cl : Value) (cld : Option Addr) (csl : Array (Option Value)), K.lookup cc = some ⟨cl, cld, .cell (some (.ref C)), csl⟩
  me : PySem.W.mroIn K C (.ref C) = some true
  sup : PySem.W.ks_superIn K C C "__init__" = some (some (.builtin initId))
  ve : PySem.W.subIn K (.ref C) (.type B) = some true
  op : PySem.W.nsIn K cStatics "thirdparty.any" = some none
  gs : mg "super" = none
  top : (P.main.scope.names.lookup ("super" : Str)).isSome = false
theorem sup_walk {X : Cx} {σ : L2.St} {H : Hp} {s : Shared} {C f c cc a : Addr} {fd : FuncData} {oc : Value} {od : Option Addr} {osl : Array (Option Value)} {ar : Arg} {body : List Stmt} {p0 p1 p2 p3 pos0 : Pos} {e : Expr} {ta : TA} {R : Hp → Prop} {pl : Sem Bool}
    {B newId initId : String} {bmB : List Value} (bx : BasX B newId initId bmB) (T : SupC X.prog X.K X.mg C c cc B newId initId bmB) (I : Inv X [] σ H s) (lk : X.K.lookup f = some ⟨oc, od, .func fd, osl⟩) (hp : (fd.params.posonlyargs ++ fd.params.args).head? = some ar)
    (hfu : X.env.func = some f) (hco : X.env.code = .ref c) (hce : X.env.cells.lookup ("__class__" : Str) = some cc) (hks : X.env.kindOf "super" = some .globalImplicit) (hkc : X.env.kindOf "__class__" = some .free) (hN0 : X.N[0]? = some ar.arg) (hl0 : X.env.kindOf ar.arg = some .local)
    (h0 : σ[0]? = some (some (.ref a))) (ea : H a = some (exo a C none)) (hPA : PA X [e] ta) (ht : ta σ H fun us H1 => us.length ≤ 1000 ∧ H1 a = some (exo a C none) ∧ R H1)
    (hst : starEach [e] X.env = [(false, eval e X.env)])
    (hi : interactive X.env = false := by rfl) (hsw : swapsWith (.Call (.Attribute (.Call (.Name "super" p0) [] [] p1) "__init__" p2) [e] [] p3) none pos0.line X.env = pure false := by rfl)
    (he : eval (.Call (.Attribute (.Call (.Name "super" p0) [] [] p1) "__init__" p2) [e] [] p3) X.env = (do
      let ov ← attributeBase (.Call (.Name "super" p0) [] [] p1) "__init__" X.env (eval (.Call (.Name "super" p0) [] [] p1) X.env)
      standAt p2.atName
      let (f, first) ← holding [ov] (getMethod ov "__init__" pl)
      callWith p3 f first (backTo p3 (starEach [e] X.env)) []) := by rfl) :
    _root_.PySem.wpAt (model X.prog X.w) X.A (.func body X.env) (exec (.Expr (.Call (.Attribute (.Call (.Name "super" p0) [] [] p1) "__init__" p2) [e] [] p3) pos0) X.env) (fun fl s' => fl = .next ∧ ∃ H1, Inv X [] σ H1 s' ∧ R H1) X.xe s := by
  obtain ⟨ccl, cdd, vsc, ccs, file, tf, hcode, hv2, hfile⟩ := T.code
  obtain ⟨cl0, cld0, csl0, hcell⟩ := T.cell
  obtain ⟨nm, q, Nn, bs, bm, sn, sub, ab, col, dd, k0, k1, k2, k3, k5, hC, hbm⟩ := T.ox.cls
  have hcl : PySem.W.clsIn X.K C = some { name := nm, bases := bs, mro := .ref C :: bm, ns := Nn, qualname := q, hasDict := true, slotNames := sn, subclasses := sub, abstract := ab, collection := col, hasDel := false } := by unfold PySem.W.clsIn; rw [hC] <;> rfl
  have KX := I.kIn
  obtain ⟨t1, ho⟩ := exo_at I.hok ea
  have hkind := I.ok.kind
  obtain ⟨mb, hb1, hb2⟩ := I.mod.blt
  obtain ⟨m, hns, hloc⟩ := id I.loc
  obtain ⟨u0, ru, lk0⟩ := hloc 0 ar.arg (.ref a) hN0 h0 (.inl hl0)
  obtain rfl : u0 = Value.ref a := ru
  have hself : m ar.arg = some (.ref a) := by
    rcases lk0 with ⟨_, z⟩ | ⟨z | z, _⟩
    · exact z
    · rw [hl0] at z
      cases z
    · rw [hl0] at z
      cases z
  have hDo := KX _ _ hC
  obtain ⟨hp0, g0, d0, tk0, os0⟩ := s
  refine ks_wpAt_Expr_any (ks_wpAt_MethodCall (pl := pl) ?_ he) hi hsw
  refine ks_wpAt_super_base (env := X.env) hks hkc (by decide) hfu (KX _ _ lk) rfl hp hco (KX _ _ hcode) rfl hv2 hfile T.top ?_
  refine PySem.W.ks_loadName_global hkind hks (Calls.loadGlobal_builtin (env := X.env) (by rw [I.ok.glob]; exact I.mod.glob.keeps I.bk) T.gs (by rw [I.ok.blt]; exact hb1.keeps I.bk) ((hb2 "super" (by decide)).trans (by decide +kernel)) ⟨rfl, ?_⟩)
  refine wpAny_loadName_free hkind hkc hce ⟨_, KX _ _ hcell, rfl⟩ ?_
  refine wpAny_loadName_local hkind hl0 hns hself ?_
  refine ks_wpAny_isType_cls hDo rfl ⟨rfl, ?_⟩
  refine ks_wpAny_call_super hDo rfl ho rfl (fun _ z => by cases z) (PySem.W.looks_mroIn KX T.me) fun h1 e1 kp1 => ?_
  have I1 : Inv X [] σ H ⟨h1, g0, d0, tk0, os0⟩ := I.kept (t' := tk0) kp1
  have KX1 := I1.kIn
  obtain ⟨t2, ho1⟩ := exo_at I1.hok ea
  have hI : PySem.W.Looks (model X.prog X.w) h1 (isInstance (.ref a) (.type B)) true := (show PySem.W.InstAt h1 a _ C none from ⟨ho1, rfl, rfl, trivial⟩).type.andThen (PySem.W.looks_subIn KX1 T.ve)
  have hmro : PySem.W.Looks (model X.prog X.w) h1 (mroOf (.ref C)) (.ref C :: bm) := (PySem.W.looks_clsIn KX1 hcl).andThen .now
  have hsupr := T.sup
  unfold PySem.W.ks_superIn at hsupr
  rw [hcl] at hsupr
  have hxC : a ≠ C := fun z => by
    have w1 := KX1 _ _ hC
    rw [← z, ho1] at w1
    cases w1
  refine PySem.W.kxs_getMethod bx.kx e1 (PySem.W.looks_opaque KX1 T.op) hmro rfl KX1 hsupr hI hxC (by decide) ?_
  have kp2 : ∀ b o, h1.get? b = some o → (h1.push (PySem.W.kxs_mw initId a)).get? b = some o := fun b o z => Heap.get?_push_of_some _ z
  have I2 : Inv X [] σ H ⟨h1.push (PySem.W.kxs_mw initId a), g0, d0, tk0 + 1, os0⟩ := I1.kept (t' := tk0 + 1) kp2
  have hu2 : (h1.push (PySem.W.kxs_mw initId a)).get? h1.objs.size = some (PySem.W.kxs_mw initId a) := Heap.get?_push_at rfl rfl
  have nu : H h1.objs.size = none := I1.hok.fresh (Nat.le_refl _)
  have I3 : Inv X [(h1.objs.size, PySem.W.kxs_mw initId a)] σ H ⟨h1.push (PySem.W.kxs_mw initId a), g0, d0, tk0 + 1, os0⟩ := I2.pins_of fun p hp => by
    rcases List.mem_cons.mp hp with z | z
    · subst z
      exact ⟨hu2, nu, fun z => Nat.lt_irrefl _ (z ▸ I1.lt), I1.nofs (Nat.le_refl _), fun v z => by cases z⟩
    · cases z
  show wpAny _ _ (callWith p3 (.ref h1.objs.size) [] (backTo p3 (starEach [e] X.env)) []) _ _ _
  have run := hPA.run p3 _ _ σ H _ I3 ht
  rw [hst] at run ⊢
  refine PySem.W.kxs_callWith (i := initId) (x := a) rfl (Calls.evalArgs_plain (wpAny_mono run (fun us s2 z => ?_) fun _ _ z => z))
  obtain ⟨vs2, H2, I4, r4, hz, ea2, hR⟩ := z
  have hu4 := (I4.pin (h1.objs.size, PySem.W.kxs_mw initId a) (List.mem_append_right _ (List.mem_cons_self ..))).1
  obtain ⟨t4, ho4⟩ := exo_at I4.hok ea2
  have hlen : us.length ≤ sizeLine := by
    rw [← Paired.length r4, sizeLine_eq]
    omega
  obtain ⟨hp4, g4, d4, tk4, os4⟩ := s2
  refine ⟨hu4, call_mw bx.eb (I4.kIn _ _ hC) ho4 hu4 hlen fun h' t5 k5 hx5 => ⟨rfl, H2, ?_, hR⟩⟩
  have J := I4.write (t' := tk4) (x := a) (e := a) (o := exo a C none) (by rw [ea2]; exact True.intro) (.inl rfl) k5 ⟨_, hx5⟩ (exo_ok hx5)
  have eu : upd H2 a (exo a C none) = H2 := by
    funext b
    by_cases hb : b = a
    · rw [hb, upd_same, ea2]
    · rw [upd_ne hb]
  rw [eu] at J
  exact J.pins_of fun p hp => by cases hp
theorem sup_ok {P : Program} {w : World} {K : PySem.W.Frag} {mg : Str → Option Value} {base : Heap} {k : Nat} {N ps : List Str} {C f c cc : Addr} {name qual : Str} {params : Arguments} {p0 p1 p2 p3 pos0 : Pos} {e : Expr} {rest : List Stmt} {scope : Scope}
    {dV kV doc pm ct oc : Value} {an od : Option Addr} {osl : Array (Option Value)} {ar : Arg} {sp : Sp} {pl : Addr → Sem Bool} {B newId initId : String} {bmB : List Value} (bx : BasX B newId initId bmB) (T : SupC P K mg C c cc B newId initId bmB)
    (lk : K.lookup f = some ⟨oc, od, .func (PySem.W.fnX name qual params (.Expr (.Call (.Attribute (.Call (.Name "super" p0) [] [] p1) "__init__" p2) [e] [] p3) pos0 :: rest) scope [("__class__", cc)] dV kV doc pm an (.ref c) ct), osl⟩)
    (hcd : PySem.W.codeIn K (.ref c) qual = true) (S : NdefX.NScope N ps ["__class__"] scope) (hks : scope.names.lookup ("super" : Str) = some .globalImplicit)
    (hp : (params.posonlyargs ++ params.args).head? = some ar) (hN0 : N[0]? = some ar.arg) (hl0 : scope.names.lookup ar.arg = some .local) (len : ∀ vs H Q E, sp vs H Q E → vs.length = ps.length)
    (hbody : ∀ (A : Around) (outer : List Env) (s : Shared) (H : Hp) (vs : List V) (Q : VK) (E : XK), Room k (A.deeper (NdefX.envF ⟨name, qual, params, [], scope, [("__class__", cc)], c⟩ f s.heap.objs.size)) → sp vs H Q E →
      ∃ (a : Addr) (ta : TA) (t : TS), (NdefX.startF N vs [none])[0]? = some (some (.ref a)) ∧ H a = some (exo a C none) ∧ PA (NdefX.ncx CX0 P w K mg base N ⟨name, qual, params, [], scope, [("__class__", cc)], c⟩ f A outer s H E).nox [e] ta ∧
        PSs (NdefX.ncx CX0 P w K mg base N ⟨name, qual, params, [], scope, [("__class__", cc)], c⟩ f A outer s H E).nox rest t ∧
        ta (NdefX.startF N vs [none]) H fun us H1 => us.length ≤ 1000 ∧ H1 a = some (exo a C none) ∧ t { nx := fun _ H' => Q .non H', rt := Q } (NdefX.startF N vs [none]) H1)
    (hst : ∀ env : Env, starEach [e] env = [(false, eval e env)]) (hi : ∀ L : Addr, interactive (NdefX.envF ⟨name, qual, params, [], scope, [("__class__", cc)], c⟩ f L) = false)
    (hsw : ∀ L : Addr, swapsWith (.Call (.Attribute (.Call (.Name "super" p0) [] [] p1) "__init__" p2) [e] [] p3) none pos0.line (NdefX.envF ⟨name, qual, params, [], scope, [("__class__", cc)], c⟩ f L) = pure false)
    (he : ∀ L : Addr, eval (.Call (.Attribute (.Call (.Name "super" p0) [] [] p1) "__init__" p2) [e] [] p3) (NdefX.envF ⟨name, qual, params, [], scope, [("__class__", cc)], c⟩ f L) = (do
      let ov ← attributeBase (.Call (.Name "super" p0) [] [] p1) "__init__" (NdefX.envF ⟨name, qual, params, [], scope, [("__class__", cc)], c⟩ f L) (eval (.Call (.Name "super" p0) [] [] p1) (NdefX.envF ⟨name, qual, params, [], scope, [("__class__", cc)], c⟩ f L))
      standAt p2.atName
      let (ff, first) ← holding [ov] (getMethod ov "__init__" (pl L))
      callWith p3 ff first (backTo p3 (starEach [e] (NdefX.envF ⟨name, qual, params, [], scope, [("__class__", cc)], c⟩ f L))) [])) :
    FnOk P w K mg base CX0 (k + 1) f (PySem.W.fnX name qual params (.Expr (.Call (.Attribute (.Call (.Name "super" p0) [] [] p1) "__init__" p2) [e] [] p3) pos0 :: rest) scope [("__class__", cc)] dV kV doc pm an (.ref c) ct) ps sp := by
  refine ⟨len, fun A outer s H args us vs Q E hr e0 hb r hsp => ?_⟩
  have hl := len _ _ _ _ hsp
  have bk : ∀ b o, base.get? b = some o → s.heap.get? b = some o := fun b o e => (e0.bs b o e).1
  have KX : K.In s.heap := e0.mod.kin.keeps bk
  have lim : s.heap.NoLimit := e0.mod.nolimit.keeps bk
  obtain ⟨cl0, cld0, csl0, hcell⟩ := T.cell
  have CA : NdefX.CellsAt [(("__class__" : Str), cc)] ["__class__"] [none] s.heap H := by
    have bc := e0.mod.kin cc _ hcell
    have z := e0.bs cc _ bc
    have only : ∀ y c', ([(("__class__" : Str), cc)] : List (Str × Addr)).lookup y = some c' → y = "__class__" ∧ c' = cc := fun y c' h => by
      have m := PySem.mem_of_lookup h
      rcases List.mem_cons.mp m with q | q
      · injection q with q1 q2
        exact ⟨q1, q2⟩
      · cases q
    refine ⟨rfl, fun y c' h => ?_, fun x y c' h1 h2 => (only x c' h1).1.trans (only y c' h2).1.symm, fun i y h => ?_⟩
    · obtain ⟨_, rfl⟩ := only y c' h
      exact ⟨z.2, _, _, z.1, rfl⟩
    · cases i with
      | zero =>
        have e : "__class__" = y := Option.some.inj h
        subst e
        exact ⟨cc, by simp [List.lookup], fun v hv => by cases hv⟩
      | succ i => cases h
  obtain ⟨a, ta, t, h0, hHa, hPA, hPS, ht⟩ := hbody A outer s H vs Q E (hr.deeper _) hsp
  refine ks_codeAny_call_defAt (binds := ps.zip us) hr.depth (KX _ _ lk) rfl lim (PySem.W.codeRec_of KX hcd) rfl hb S.nocell (fun ⟨n, _⟩ hy => S.par n (List.of_mem_zip hy).1) (fun h₁ hns kp => ?_) S.co S.gen S.kind
  have I : Inv (NdefX.ncx CX0 P w K mg base N ⟨name, qual, params, [], scope, [("__class__", cc)], c⟩ f A outer s H E).nox [] (NdefX.startF N vs [none]) H { s with heap := h₁, toks := s.toks + (ps.zip us).length } :=
    (NdefX.inv_startN (F := ⟨name, qual, params, [], scope, [("__class__", cc)], c⟩) S hr.hd e0 hl r CA hns kp).wish _
  refine ks_wpAt_execs_cons (ks_wpAt_mono (sup_walk (X := (NdefX.ncx CX0 P w K mg base N ⟨name, qual, params, [], scope, [("__class__", cc)], c⟩ f A outer s H E).nox) (R := fun H1 => t { nx := fun _ H' => Q .non H', rt := Q } (NdefX.startF N vs [none]) H1)
    bx T I lk hp rfl rfl rfl hks (S.frk _ (by simp)) hN0 hl0 h0 hHa hPA ht (hst _) (hi _) (hsw _) (he _)) (fun fl s' z => ?_) fun _ _ z => z.elim)
  obtain ⟨rfl, H1, J, hR⟩ := z
  refine wpAt_of_wpAny (wpAny_mono (hPS.run [] s' _ H1 _ J hR) (fun fl s2 z => ?_) fun _ _ z => z.elim)
  have fin : ∀ {σ' : L2.St} {H' : Hp} {v : V} {u : Value}, Inv (NdefX.ncx CX0 P w K mg base N ⟨name, qual, params, [], scope, [("__class__", cc)], c⟩ f A outer s H E).nox [] σ' H' s2 → RelV v u → Q v H' → CE outer P w H s Q u s2 :=
    fun {σ' H' v u} J rv q => ⟨v, H', J.os, J.bare, J.base, J.hok, rv, q⟩
  cases fl with
  | ret u =>
    obtain ⟨v, σ', H', J, rv, q⟩ := z
    exact fin J rv q
  | next =>
    obtain ⟨σ', H', J, q⟩ := z
    exact fin (v := V.non) (u := Value.none) J rfl q
  | brk =>
    obtain ⟨_, _, _, q⟩ := z
    exact False.elim q
  | cont =>
    obtain ⟨_, _, _, q⟩ := z
    exact False.elim q
end Hs
namespace Hs
open PySem PySem.Spec PyProof.Rows L2 Evl
/-- C(), C's own __init__ keeping sp -/
theorem pmk_oex0 {X : Cx} {CX : CXT} {x : Str} {C fI : Addr} {k : Nat} {fd : FuncData} {ps : List Str} {sp : Sp} {ds : List Value} {dvs : List V} {p pos : Pos} {B newId initId : String} {bmB : List Value} (bx : BasX B newId initId bmB) (T : OexG X.K C newId bmB) (iC : PySem.W.findIn X.K (.ref C) "__init__" = some (some (.ref fI))) (tI : PySem.W.typeIn X.K (.ref fI) = some (.type "function"))
    (F1 : FnOk X.prog X.w X.K X.mg X.base CX k fI fd ps sp) (hr : Room (k + 1) X.A) (hb : Binds X.K fd ps ds) (hd : Vals dvs ds) (hx : Passes CX X (fun _ _ _ => False)) (hg : Gl X x) (hm : X.mg x = some (.ref C))
    (hdb : (x == ("__debug__" : Str)) = false := by decide) : PMk X (.Call (.Name x p) [] [] pos) (tMkO C sp dvs tNil) := by
  intro pins s σ H Q I h
  obtain ⟨nm, q, N, bs, bm, sn, sub, ab, col, dd, k0, k1, k2, k3, k5, hC, hbm⟩ := T.cls
  refine wpAny_Call_Name_kw (ld_glob I hg hm ?_ hdb)
  refine PySem.W.callWith_K0 I.kIn T.kC ?_
  show wpAny _ _ (call (.ref C) []) _ _ _
  obtain ⟨hp, g, dr, tk, os⟩ := s
  have hsz : hp.objs.size ≤ hp.objs.size + 1 := Nat.le_succ _
  have hn : H (hp.objs.size + 1) = none := I.hok.fresh hsz
  have hq := h.2 (hp.objs.size + 1) hn
  have kk : ∀ b o, hp.get? b = some o → ((hp.push (PySem.W.kdv_tup [])).push (PySem.HandSPX.excO C hp.objs.size)).get? b = some o := fun b o e => Heap.get?_push_of_some _ (Heap.get?_push_of_some _ e)
  have hget : ((hp.push (PySem.W.kdv_tup [])).push (PySem.HandSPX.excO C hp.objs.size)).get? (hp.objs.size + 1) = some (PySem.HandSPX.excO C hp.objs.size) := by heap_get
  have I2 : Inv X pins σ (upd H (hp.objs.size + 1) (exo (hp.objs.size + 1) C none)) ⟨(hp.push (PySem.W.kdv_tup [])).push (PySem.HandSPX.excO C hp.objs.size), g, dr, tk, os⟩ :=
    I.laid (t' := tk) (a := hp.objs.size + 1) (o := exo (hp.objs.size + 1) C none) (h' := (hp.push (PySem.W.kdv_tup [])).push (PySem.HandSPX.excO C hp.objs.size)) kk hsz (exo_ok hget)
  have r2 : Vals (V.ref (hp.objs.size + 1) :: ([] ++ dvs)) ([Value.ref (hp.objs.size + 1)] ++ ds) := .cons rfl hd
  have hl : (Value.ref (hp.objs.size + 1) :: [] ++ ds).length = ps.length := by
    have e := r2.length
    rw [F1.len _ _ _ _ hq] at e
    exact e.symm
  refine wpAny_call (PySem.HandSPX.call_own bx.eb (fun Y => PySem.W.excTail_contains Y bm hbm) (I.kIn _ _ hC) (PySem.W.looks_findIn I.kIn iC) (fun self => PySem.W.bind_fn I.kIn self tI) (Nat.zero_le _)
    (codeAny_mono (F1.run _ X.stack _ _ ⟨[Value.ref (hp.objs.size + 1)], []⟩ ([Value.ref (hp.objs.size + 1)] ++ ds) _ _ (fun _ _ _ => False) (hr.make C [] []) (I2.env0.make C [] []) (hb _ [Value.ref (hp.objs.size + 1)] I2.kIn hl) r2 hq) fun r s' hq' => ?_))
  cases r with
  | error er => exact hx pins σ _ _ er s' I2 hq'
  | ok fl =>
    cases fl with
    | ret u =>
      obtain ⟨v, H2, os2, bare2, un2, hok2, rv, ev, d, fs, ea, ed, hd1, q2⟩ := hq'
      subst ev
      obtain ⟨h2, g2, d2, t2, os'⟩ := s'
      exact ⟨rv, mk_end (raises_own T.exC T.tyC) I hsz kk un2 hok2 os2 bare2 ea ed hd1 q2⟩
    | next => exact False.elim hq'
    | brk => exact False.elim hq'
    | cont => exact False.elim hq'
/-- __init__ of an error with its word alone -/
def spErr (C : Addr) (wd : Str) : Sp := fun vs H Q _ => ∃ (a : Addr) (y : V), vs = [.ref a, y] ∧ H a = some (exo a C none) ∧ ∀ dx, H dx = none → dx ≠ a → Q .non (upd (upd H dx (exd dx [("word", .str wd)])) a (exo a C (some dx)))
/-- raise C(): the word in the error's own dict -/
theorem mk_err {C : Addr} {wd : Str} {y : V} {σ : L2.St} {H : Hp} {Q : XK} (h : ∀ d H', Ex H H' → H d = none → H' d = some (.xd [("word", .str wd)]) → Q (.ref C) (some d) H') : tMkO C (spErr C wd) [y] tNil σ H Q := by
  refine ⟨Nat.zero_le _, fun a na => ⟨a, y, rfl, upd_same, fun dx nd ne => ⟨rfl, dx, [("word", .str wd)], upd_same, ?_, ?_, ?_⟩⟩⟩
  · rw [upd_ne ne, upd_same]
  · rw [upd_ne ne] at nd
    exact nd
  · have nd' : H dx = none := by
      rw [upd_ne ne] at nd
      exact nd
    refine h dx _ (fun b o e => ?_) nd' upd_same
    have nb : b ≠ dx := ne_of_none e nd'
    have na' : b ≠ a := ne_of_none e na
    rw [upd_ne nb, del_ne na', upd_ne na', upd_ne nb, upd_ne na']
    exact e
end Hs
namespace Hs
open PySem PySem.Spec PyProof.Rows L2 Evl
/-- an own error class x at C with the word wd alone, as it stands -/
structure ErrF (P : Program) (w : World) (K : PySem.W.Frag) (mg : Str → Option Value) (base : Heap) (k : Nat) (x : Str) (C : Addr) (wd : Str) : Prop where
  ox : ∃ (B newId initId : String) (bmB : List Value), BasX B newId initId bmB ∧ OexG K C newId bmB
  gx : mg x = some (.ref C)
  ini : ∃ (fI : Addr) (fd : FuncData) (ps : List Str) (y : V) (d : Value), PySem.W.findIn K (.ref C) "__init__" = some (some (.ref fI)) ∧ PySem.W.typeIn K (.ref fI) = some (.type "function") ∧ FnOk P w K mg base CX0 k fI fd ps (spErr C wd) ∧ RelV y d ∧ Binds K fd ps [d]
theorem pmk_err {X : Cx} {k j : Nat} {x : Str} {C : Addr} {wd : Str} {p pos : Pos} (Er : ErrF X.prog X.w X.K X.mg X.base k x C wd) (hr : Room j X.A) (hk : k + 1 ≤ j) (hg : Gl X x) (hdb : (x == ("__debug__" : Str)) = false := by decide) :
    PMk X (.Call (.Name x p) [] [] pos) (fun _ H Q => ∀ d H', Ex H H' → H d = none → H' d = some (.xd [("word", .str wd)]) → Q (.ref C) (some d) H') := by
  obtain ⟨fI, fd, ps, y, d, h1, h2, h3, h4, h5⟩ := Er.ini
  obtain ⟨B, newId, initId, bmB, bx, ox⟩ := Er.ox
  intro pins s σ H Q I h
  exact pmk_oex0 bx ox h1 h2 h3 (hr.mono hk) h5 (.cons h4 .nil) (fun _ _ _ _ _ _ _ z => z.elim) hg Er.gx hdb pins s σ H Q I (mk_err h)
/-- the def st of a class's body, closed over __class__ at cc, its code object at c -/
def InitAt (K : PySem.W.Frag) (qual : Str) (st : Stmt) (f c cc : Addr) (dvs : List V) (fd : FuncData) : Prop :=
  ∃ (oc : Value) (od : Option Addr) (dV kV doc pm : Value) (an : Option Addr) (ct : Value) (osl : Array (Option Value)), fd = PySem.W.fnX "__init__" qual (defArgs st) (defBody st) (defScope st) [("__class__", cc)] dV kV doc pm an (.ref c) ct ∧
    K.lookup f = some ⟨oc, od, .func fd, osl⟩ ∧ PySem.W.codeIn K (.ref c) qual = true ∧ DflV K dV dvs
/-- __init__(self, why=..): super().__init__(why); self.word = '..' -/
theorem err_ok {P : Program} {w : World} {K : PySem.W.Frag} {mg : Str → Option Value} {base : Heap} {C f c cc : Addr} {fd : FuncData} {qual wd : Str} {st : Stmt} {y : V} {p0 p1 p2 p3 p4 pos0 p5 p6 p7 p8 : Pos} {kd : Nat} {ar : Arg} {B newId initId : String} {bmB : List Value} (bx : BasX B newId initId bmB) (T : SupC P K mg C c cc B newId initId bmB) (I0 : InitAt K qual st f c cc [y] fd)
    (hno : PySem.W.findIn K (.ref C) "word" = some none)
    (hbd : defBody st = [.Expr (.Call (.Attribute (.Call (.Name "super" p0) [] [] p1) "__init__" p2) [.Name "why" p4] [] p3) pos0, .Assign [.Attribute (.Name "self" p5) "word" p6] (.Constant (.str wd) kd p7) p8])
    (S : NdefX.NScope ["self", "why", "__class__"] ["self", "why"] ["__class__"] (defScope st)) (hks : (defScope st).names.lookup ("super" : Str) = some .globalImplicit)
    (hp : ((defArgs st).posonlyargs ++ (defArgs st).args).head? = some ar) (har : ar.arg = "self") (hl0 : (defScope st).names.lookup ("self" : Str) = some .local) (hl1 : (defScope st).names.lookup ("why" : Str) = some .local) {pl : Addr → Sem Bool}
    (hi : ∀ L : Addr, interactive (NdefX.envF ⟨"__init__", qual, defArgs st, [], defScope st, [("__class__", cc)], c⟩ f L) = false)
    (hsw : ∀ L : Addr, swapsWith (.Call (.Attribute (.Call (.Name "super" p0) [] [] p1) "__init__" p2) [.Name "why" p4] [] p3) none pos0.line (NdefX.envF ⟨"__init__", qual, defArgs st, [], defScope st, [("__class__", cc)], c⟩ f L) = pure false)
    (hs2 : ∀ L : Addr, swapsWith (.Constant (.str wd) kd p7) (some (.Attribute (.Name "self" p5) "word" p6)) p8.line (NdefX.envF ⟨"__init__", qual, defArgs st, [], defScope st, [("__class__", cc)], c⟩ f L) = pure false)
    (he : ∀ L : Addr, eval (.Call (.Attribute (.Call (.Name "super" p0) [] [] p1) "__init__" p2) [.Name "why" p4] [] p3) (NdefX.envF ⟨"__init__", qual, defArgs st, [], defScope st, [("__class__", cc)], c⟩ f L) = (do
      let ov ← attributeBase (.Call (.Name "super" p0) [] [] p1) "__init__" (NdefX.envF ⟨"__init__", qual, defArgs st, [], defScope st, [("__class__", cc)], c⟩ f L) (eval (.Call (.Name "super" p0) [] [] p1) (NdefX.envF ⟨"__init__", qual, defArgs st, [], defScope st, [("__class__", cc)], c⟩ f L))
      standAt p2.atName
      let (ff, first) ← holding [ov] (getMethod ov "__init__" (pl L))
      callWith p3 ff first (backTo p3 (starEach [.Name "why" p4] (NdefX.envF ⟨"__init__", qual, defArgs st, [], defScope st, [("__class__", cc)], c⟩ f L))) []))
    (hst : ∀ env : Env, starEach [.Name "why" p4] env = [(false, eval (.Name "why" p4) env)]) :
    FnOk P w K mg base CX0 1 f fd ["self", "why"] (spErr C wd) := by
  obtain ⟨oc, od, dV, kV, doc, pm, an, ct, osl, rfl, lk, hcd, _⟩ := I0
  rw [hbd] at lk ⊢
  refine sup_ok (k := 0) (N := ["self", "why", "__class__"]) bx T lk hcd S hks hp (by rw [har] <;> rfl) (by rw [har]; exact hl0) (fun vs H Q E h => ?_) (fun A outer s H vs Q E hr h => ?_) hst hi hsw he
  · obtain ⟨a, y, rfl, _⟩ := h
    rfl
  · obtain ⟨a, y, rfl, ha, k⟩ := h
    refine ⟨a, tCons (tVar 1) tNil, tPut K newId bmB "word" (tVar 0) (tC (.str wd)), rfl, ha, pa_cons (pv 1 rfl (.inl hl1)) pa_nil (hst _), pss_one (ps_put bx (pv 0 rfl (.inl hl0)) pe_str (hs2 _)), ?_⟩
    exact ⟨y, rfl, Nat.succ_le_succ (Nat.zero_le _), ha, .ref a, rfl, a, C, rfl, T.ox, hno, .inl ⟨ha, fun dx n ne => k dx n ne⟩⟩
end Hs
namespace Hs
open PySem PySem.Spec PyProof.Rows L2 Evl
/-! ### try with several clauses, each with a name -/
theorem flyZ_kept {base : Heap} {l : List Env} {e : Addr} {Z : Obj → Prop} {h h' : Heap} (k : ∀ b o, h.get? b = some o → h'.get? b = some o) (f : HandSPX.FlyingZ base l e Z h) : HandSPX.FlyingZ base l e Z h' := by
  obtain ⟨f1, f2, f3, oe, vs, T, oT, ts, h1, h2, h3, h4, h5, h6, h7, h8, h9⟩ := f
  exact ⟨fun b o z => k b o (f1 b o z), f2, f3.of_keeps fun b o z _ => ⟨o, k b o z, rfl⟩, oe, vs, T, oT, ts, k _ _ h1, h2, h3, h4, h5, h6, k _ _ h7, h8, h9⟩
/-- the classes that a clause names: r tells of a class whether it is one of theirs -/
def TestOk (X : Cx) (t : Expr) (r : Value → Option Bool) : Prop :=
  ∀ (a : Addr) (oe : Obj) (pn : List (Addr × Obj)) (σ : L2.St) (H : Hp) (s : Shared), Inv (X.suite a ((a, oe) :: pn)) [] σ H s → ∀ (cls : Value) (b : Bool), r cls = some b → PySem.W.Looks (model X.prog X.w) s.heap (typeOf (.ref a)) cls →
    ∀ (Q : Bool → Shared → Prop) (E : Value → Shared → Prop), (∀ h', (∀ b o, s.heap.get? b = some o → h'.get? b = some o) → Q b { s with heap := h' }) →
      wpAny (model X.prog X.w) (X.A.mark (some (.ref a))) (eval t X.env) (fun c s₁ => wpAny (model X.prog X.w) (X.A.mark (some (.ref a))) (excMatches (.ref a) c) Q E s₁) E s
theorem ld_cls {X : Cx} {x : Str} {c : Value} {np : Pos} (hc : Names X x c) {a : Addr} {oe : Obj} {pn : List (Addr × Obj)} {σ : L2.St} {H : Hp} {s : Shared} (I : Inv (X.suite a ((a, oe) :: pn)) [] σ H s) {Q : Value → Shared → Prop} {E : Value → Shared → Prop} (q : Q c s) :
    wpAny (model X.prog X.w) (X.A.mark (some (.ref a))) (eval (.Name x np) X.env) Q E s := by
  obtain ⟨hg, hdbg, hm | ⟨hm, hv, hnn⟩⟩ := hc
  · exact ld_glob (X := X.suite a ((a, oe) :: pn)) I hg hm q hdbg
  · exact ld_blt (X := X.suite a ((a, oe) :: pn)) I hg hm hv q hnn hdbg
theorem test_one {X : Cx} {x : Str} {c : Value} {np : Pos} (hc : Names X x c) : TestOk X (.Name x np) (fun cls => PySem.W.exmOne X.K cls c) := by
  intro a oe pn σ H s I cls b hb LT Q E q
  exact ld_cls hc I ((PySem.W.exm_one (M := model X.prog X.w) I.kIn LT hb).here (q s.heap fun _ _ z => z))
theorem test_two {X : Cx} {x y : Str} {c1 c2 : Value} {np nq pos : Pos} {k : Nat} (hc : Names X x c1) (hd : Names X y c2)
    (hs1 : starEach [.Name x np, .Name y nq] X.env = [(false, eval (.Name x np) X.env), (false, eval (.Name y nq) X.env)] := by rfl) : TestOk X (.Tuple [.Name x np, .Name y nq] k pos) (fun cls => PySem.W.exmAny X.K cls [c1, c2]) := by
  intro a oe pn σ H s I cls b hb LT Q E q
  refine wpAny_Tuple_spliced ?_
  rw [hs1]
  show wpAny _ _ (spliced ((false, eval (.Name x np) X.env) :: (false, eval (.Name y nq) X.env) :: backTo pos [])) _ _ s
  refine Calls.spliced_cons (ld_cls hc I (Calls.spliced_cons (ld_cls hd I (Calls.spliced_nil ?_))))
  refine ⟨by show 2 ≤ sizeLine; decide, ?_⟩
  have kp : ∀ b o, s.heap.get? b = some o → (s.heap.push { cls := .type "tuple", data := .seq [c1, c2].toArray }).get? b = some o := fun b o z => Heap.get?_push_of_some _ z
  exact (PySem.W.exm_tup2 (M := model X.prog X.w) (I.kIn.keeps kp) (LT.keeps kp) (Heap.get?_push_size _ rfl) hb).here (q _ kp)
theorem test_three {X : Cx} {x y z : Str} {c1 c2 c3 : Value} {np nq nr pos : Pos} {k : Nat} (hc : Names X x c1) (hd : Names X y c2) (he : Names X z c3)
    (hs1 : starEach [.Name x np, .Name y nq, .Name z nr] X.env = [(false, eval (.Name x np) X.env), (false, eval (.Name y nq) X.env), (false, eval (.Name z nr) X.env)] := by rfl) : TestOk X (.Tuple [.Name x np, .Name y nq, .Name z nr] k pos) (fun cls => PySem.W.exmAny X.K cls [c1, c2, c3]) := by
  intro a oe pn σ H s I cls b hb LT Q E q
  refine wpAny_Tuple_spliced ?_
  rw [hs1]
  show wpAny _ _ (spliced ((false, eval (.Name x np) X.env) :: (false, eval (.Name y nq) X.env) :: (false, eval (.Name z nr) X.env) :: backTo pos [])) _ _ s
  refine Calls.spliced_cons (ld_cls hc I (Calls.spliced_cons (ld_cls hd I (Calls.spliced_cons (ld_cls he I (Calls.spliced_nil ?_))))))
  refine ⟨by show 3 ≤ sizeLine; decide, ?_⟩
  have kp : ∀ b o, s.heap.get? b = some o → (s.heap.push { cls := .type "tuple", data := .seq [c1, c2, c3].toArray }).get? b = some o := fun b o z => Heap.get?_push_of_some _ z
  exact (PySem.W.exm_tup3 (M := model X.prog X.w) (I.kIn.keeps kp) (LT.keeps kp) (Heap.get?_push_size _ rfl) hb).here (q _ kp)
end Hs
namespace Hs
open PySem PySem.Spec PyProof.Rows L2 Evl
/-- what the clauses wish of an exception of the body, one after the other; slot i is the clauses' name -/
def wManyA (i m : Nat) (Wout : WX) (D : Ends) : List ((Value → Option Bool) × (Addr → Value → Option Addr → TS)) → WX
  | [] => Wout
  | (r, ts) :: l => fun cls d σ H => ∃ b, r cls = some b ∧ (b = true → σ.length = m → ∀ a, H a = none → ts a cls d { nx := fun σ' H' => D.nx (σ'.set i none) H', rt := D.rt, bk := fun σ' H' => D.bk (σ'.set i none) H', ct := fun σ' H' => D.ct (σ'.set i none) H' } (σ.set i (some (.ref a))) H) ∧
      (b = false → wManyA i m Wout D l cls d σ H)
inductive HdsA (X : Cx) (n : Str) : List ExceptHandler → List ((Value → Option Bool) × (Addr → Value → Option Addr → TS)) → Prop
  | nil : HdsA X n [] []
  | cons {t : Expr} {r : Value → Option Bool} {ts : Addr → Value → Option Addr → TS} {b₀ : Stmt} {suite : List Stmt} {pos' : Pos} {hds : List ExceptHandler} {l : List ((Value → Option Bool) × (Addr → Value → Option Addr → TS))} (hc : TestOk X t r)
      (hsu : ∀ (a : Addr) (oe : Obj) (cls : Value) (d : Option Addr) (pn : List (Addr × Obj)), Zc cls d oe → (∃ vs, oe.data = .fields vs) → PSs (X.suite a ((a, oe) :: pn)) (b₀ :: suite) (ts a cls d)) (rest : HdsA X n hds l) :
      HdsA X n (.ExceptHandler (some t) (some n) (b₀ :: suite) pos' :: hds) ((r, ts) :: l)
theorem ps_try_manyA {X : Cx} {n : Str} {i : Nat} {body : List Stmt} {h₀ : ExceptHandler} {hds : List ExceptHandler} {l : List ((Value → Option Bool) × (Addr → Value → Option Addr → TS))} {pos : Pos} {tb : WX → TS} {Wout : WX}
    (hs : X.stack = X.env :: X.outer) (hf : X.env.frame = some X.env.locals) (hN : X.N.Nodup) (hi : X.N[i]? = some n) (hln : X.env.kindOf n = some .local) (tk : Takes X Wout)
    (hb : ∀ (W : WX) (pn : List (Addr × Obj)) (xe : Value → Shared → Prop), Takes (X.tr pn xe) W → PassesOwn (model X.prog X.w) X.A X.env xe → PSs (X.tr pn xe) body (tb W))
    (hh : HdsA X n (h₀ :: hds) l) : PS X (.Try body (h₀ :: hds) [] [] pos) (fun D σ H => tb (wManyA i X.N.length Wout D l) D σ H) := by
  refine ⟨fun pins s σ H D I h => ?_⟩
  have ok := I.ok
  have hfr : X.A.frames = some (X.env :: X.outer) := by rw [ok.frames, hs]
  have hloc : Loc X.env.scope n := .inl hln
  refine wpAny_Try_except ?_
  refine wpAny_mono ((hb (wManyA i X.N.length Wout D l) (X.pn ++ pins) (fun e s₁ => wpAny (model X.prog X.w) X.A (noteFrame e X.env) (fun _ s₂ => wpAny (model X.prog X.w) X.A (setFlight e none) (fun _ s₃ =>
    wpAny (model X.prog X.w) X.A (handleBy e X.env (h₀ :: hds)) (SP X pins D) X.xe s₃) X.xe s₂) X.xe s₁) (fun u s' xx => ?_) PassesOwn.looking).run [] s σ H D (I.toTry _) h) (fun f s1 hsp => ?_) (fun e s1 he => he)
  · obtain ⟨a, B, sI, pins', σ', H', cls, d, rfl, J', nb, up, sky, na, os, ag, w⟩ := xx
    have J : Inv X pins σ' H' sI := J'.ofTry ok
    have sky' : Sky B (X.env :: X.outer) a (Zc cls d) X.env.locals s'.heap := by rw [← hs]; exact sky
    show wpAny (model X.prog X.w) X.A (noteFrame (.ref a) X.env) _ _ _
    refine Sky.land Zc.steady hfr hf sky' fun h3 fl3 up3 => ?_
    have notFr : ∀ {h : Heap} {o : Obj} {vs : Array Value}, h.FunFrames B (X.env :: X.outer) → h.get? a = some o → o.data = .fields vs → a ∉ frs (X.env :: X.outer) := fun {h o vs} ff e dd hm => by
      obtain ⟨_, o', e', hnf⟩ := ff.mem hm
      rw [e] at e'; cases e'
      exact hnf _ dd
    have go : ∀ {hds' : List ExceptHandler} {l' : List ((Value → Option Bool) × (Addr → Value → Option Addr → TS))}, HdsA X n hds' l' → wManyA i X.N.length Wout D l' cls d σ' H' → ∀ h3, HandSPX.FlyingZ B (X.env :: X.outer) a (Zc cls d) h3 → sI.heap.UpToSlots h3 →
        wpAny (model X.prog X.w) X.A (handleBy (.ref a) X.env hds') (SP X pins D) X.xe { s' with heap := h3 } := by
      intro hds' l' hk
      induction hk with
      | nil =>
        intro w h3 fl3 up3
        refine wpAny_handleBy_nil ?_
        obtain ⟨k1, k2, k3, oe, vs, T, oT, ts', he, hz, hd, h1, hr⟩ := id fl3
        unfold PySem.passOn
        refine wpAny_bind (wpAny_field he hd h1 ?_)
        rw [if_neg (show ¬ ((Value.ref T == Value.none) = true) from by simp)]
        have fin : wpAny (model X.prog X.w) X.A (setFlight (.ref a) X.env.frame) (fun _ s4 => wpAny (model X.prog X.w) X.A (throw (.ref a) : Sem Flow) (SP X pins D) X.xe s4) X.xe { s' with heap := h3 } := by
          rw [hf]
          refine HandSPX.setFlight_upZ fl3 fun h4 hh4 up4 => wpAny_throw (tk _ _ ?_)
          exact ⟨a, B, sI, pins, σ', H', cls, d, rfl, J, nb, up3.trans up4, .inr (.inr (by rw [hs]; exact hh4)), na, os, ag, w⟩
        first
          | exact wpAny_bind (wpAny_pure (wpAny_bind fin))
          | exact wpAny_bind fin
      | @cons t r ts b₀ suite pos' hds2 l2 hc hsu rest ih =>
        intro w h3 fl3 up3
        obtain ⟨b, hb1, hyes, hno⟩ := w
        have J3 : Inv X pins σ' H' { s' with heap := h3 } := J.landed nb fl3.1 up3 os ag
        obtain ⟨oe3, vs3, he3, hz3, hd3⟩ := fl3.there
        have nfr := notFr fl3.2.2.1 he3 hd3
        have nL : a ≠ X.env.locals := fun z => nfr (List.mem_filterMap.mpr ⟨X.env, List.mem_cons_self, by rw [hf, z]⟩)
        have nF : a ∉ X.fs := fun hm => by
          obtain ⟨e, he, q⟩ := List.mem_filterMap.mp hm
          exact nfr (List.mem_filterMap.mpr ⟨e, List.mem_cons_of_mem _ he, q⟩)
        have S3 := J3.suite he3 hd3 na nL nF
        refine wpAny_handleBy_cons (codeAny_handlers_test ?_) (by intro q; cases q)
        have LT : PySem.W.Looks (model X.prog X.w) h3 (typeOf (.ref a)) cls := fun A Q E s k q => wpAny_typeOf_ref (k _ _ he3) (by rw [hz3.1]; exact q)
        refine hc a oe3 (X.pn ++ pins) σ' H' _ S3 cls b hb1 LT _ _ fun h4 kp4 => ?_
        have fl4 := flyZ_kept kp4 fl3
        have up4 : sI.heap.UpToSlots h4 := up3.trans (Heap.UpToSlots.of_keeps kp4)
        cases b with
        | true =>
          refine codeAny_handlers_suite_as ?_
          refine HandSPX.lands_againZ fl4 fun h5 fl5 up5 => ?_
          have J5 : Inv X pins σ' H' { s' with heap := h5 } := J.landed nb fl5.1 (up4.trans up5) os ag
          obtain ⟨oe5, vs5, he5, hz5, hd5⟩ := fl5.there
          have S5 := J5.suite he5 hd5 na nL nF
          refine store_ok (X := X.suite a ((a, oe5) :: (X.pn ++ pins))) (v := .ref a) S5 hN hi hloc rfl (fun s6 S6 => ?_) (.inr hln)
          refine wpAny_mono ((hsu a oe5 cls d (X.pn ++ pins) hz5 ⟨_, hd5⟩).run [] s6 _ H' _ S6 (hyes rfl J.len a na)) (fun f s6 hsp => ?_) (fun _ _ z => False.elim z)
          have end_ : ∀ {σ6 : L2.St} {H6 : Hp} {Q : Shared → Prop}, Inv (X.suite a ((a, oe5) :: (X.pn ++ pins))) [] σ6 H6 s6 → (∀ s7, Inv X pins (σ6.set i none) H6 s7 → Q s7) →
              wpAny (model X.prog X.w) X.A (do bindName X.env n .none; unbindBehindTheSuite X.env n pos') (fun _ s7 => Q s7) X.xe s6 := fun {σ6 H6 Q} S6 hq => gone_ok (S6.unsuite ok) hN hi hln hq
          cases f with
          | next =>
            obtain ⟨σ6, H6, S6, q6⟩ := hsp
            exact end_ S6 fun s7 J7 => ⟨_, _, J7, q6⟩
          | brk =>
            obtain ⟨σ6, H6, S6, q6⟩ := hsp
            exact end_ S6 fun s7 J7 => ⟨_, _, J7, q6⟩
          | cont =>
            obtain ⟨σ6, H6, S6, q6⟩ := hsp
            exact end_ S6 fun s7 J7 => ⟨_, _, J7, q6⟩
          | ret u =>
            obtain ⟨v6, σ6, H6, S6, r6, q6⟩ := hsp
            exact end_ S6 fun s7 J7 => ⟨_, _, _, J7, r6, q6⟩
        | false =>
          show wpAny _ X.A (handleBy (.ref a) X.env hds2) _ _ _
          exact ih (hno rfl) h4 fl4 up4
    exact go hh w h3 fl3 (up.trans up3)
  · cases f with
    | next =>
      obtain ⟨σ', H', J', q⟩ := hsp
      exact wpAny_execs_nil ⟨σ', H', J'.ofTry ok, q⟩
    | brk =>
      obtain ⟨σ', H', J', q⟩ := hsp
      exact ⟨σ', H', J'.ofTry ok, q⟩
    | cont =>
      obtain ⟨σ', H', J', q⟩ := hsp
      exact ⟨σ', H', J'.ofTry ok, q⟩
    | ret u =>
      obtain ⟨v, σ', H', J', r, q⟩ := hsp
      exact ⟨v, σ', H', J'.ofTry ok, r, q⟩
end Hs
namespace Hs
open PySem PySem.Spec PyProof.Rows L2 Evl
/-- e.n in an except suite, whatever own class the error has -/
def tXfA (K : PySem.W.Frag) (a : Addr) (cls : Value) (d : Option Addr) (n : Str) (te : TE) : TE := fun σ H Q => te σ H fun x H1 => x = .ref a ∧ ∃ C : Addr, cls = .ref C ∧ XfC K C ∧ PySem.W.findIn K (.ref C) n = some none ∧
  ∃ (dd : Addr) (fs : List (Str × V)) (v : V), d = some dd ∧ H1 dd = some (.xd fs) ∧ fs.lookup n = some v ∧ Q v H1
theorem pe_xfA {X : Cx} {a : Addr} {oe : Obj} {cls : Value} {d : Option Addr} {pn : List (Addr × Obj)} {e : Expr} {te : TE} {pos : Pos} {n : Str} (hz : Zc cls d oe) (hf : ∃ vs, oe.data = .fields vs) (he : PE (X.suite a ((a, oe) :: pn)) e te)
    (hb : attributeBase e n X.env (eval e X.env) = eval e X.env := by rfl) : PE (X.suite a ((a, oe) :: pn)) (.Attribute e n pos) (tXfA X.K a cls d n te) := by
  refine ⟨fun pins s σ H Q I h => ?_⟩
  refine attr_of hb (thn (he.run pins s σ H _ I h) fun u s1 hh => ?_)
  obtain ⟨x, H1, I1, rx, ex, C, ec, T, hno, dd, fs, v, ed, ea, l, q⟩ := hh
  subst ex
  obtain rfl : u = Value.ref a := rx
  subst ec
  subst ed
  obtain ⟨ha, _⟩ := I1.pin (a, oe) (List.mem_append_left _ List.mem_cons_self)
  obtain ⟨vs, hd⟩ := hf
  have hx : ObjOk X.prog X.w H1 s1.heap dd (.xd fs) := I1.hok dd _ ea
  obtain ⟨mA, hns, hr⟩ := hx
  obtain ⟨od, ho, hl⟩ := lookIn_ns hns
  obtain ⟨u, hu, ru⟩ := RelO.some_of (v := v) (o := mA n) (by rw [← l]; exact hr n)
  have J : PySem.W.InstAt s1.heap a oe C (some od) := ⟨ha, hz.1, by unfold PySem.W.notCls; rw [hd] <;> rfl, by rw [hz.2]; exact ho⟩
  exact HandSPX.exc_get I1.kIn J T.ga T.gg T.exC (PySem.W.findObj_own T.hdC hno rfl (by rw [hl, hu])) (handed_of ru) ⟨v, H1, I1.tok _, ru, q⟩
/-- the classes that the law's own catcher names -/
structure Cats (mg : Str → Option Value) (cN cL cK cB cS cM cC : Addr) : Prop where
  n : mg "NoThing" = some (.ref cN)
  l : mg "NoLook" = some (.ref cL)
  k : mg "Looked" = some (.ref cK)
  b : mg "BadText" = some (.ref cB)
  s : mg "ShadeError" = some (.ref cS)
  m : mg "Missing" = some (.ref cM)
  c : mg "Crowded" = some (.ref cC)
/-- an error class that only the last clause takes, with its word -/
structure Word (K : PySem.W.Frag) (C cN cL cK cB cS cM cC : Addr) : Prop where
  n : PySem.W.exmOne K (.ref C) (.ref cN) = some false
  l : PySem.W.exmAny K (.ref C) [.ref cL, .ref cK] = some false
  b : PySem.W.exmOne K (.ref C) (.ref cB) = some false
  s : PySem.W.exmAny K (.ref C) [.ref cS, .ref cM, .ref cC] = some true
  xf : XfC K C
  no : PySem.W.findIn K (.ref C) "word" = some none
/-- what the catcher makes of what it calls: ('told', v), or the word of an error -/
def TTr (K : PySem.W.Frag) (cN cL cK cB cS cM cC : Addr) : (XK → Hp → VK → Prop) → Hp → VK → Prop := fun tl H Q =>
  tl (fun cls d H' => ∃ (C dd : Addr) (fs : List (Str × V)) (wd : Str), cls = .ref C ∧ d = some dd ∧ Word K C cN cL cK cB cS cM cC ∧ H' dd = some (.xd fs) ∧ fs.lookup ("word" : Str) = some (V.str wd) ∧ ∀ p, H' p = none → Q (.ref p) (upd H' p (.tup [.str wd]))) H
    (fun v H1 => ([V.str "told", v] : List V).length ≤ sizeLine ∧ ∀ p, H1 p = none → Q (.ref p) (upd H1 p (.tup [.str "told", v])))
abbrev sTried : Stmt := top 109
theorem scTried : FnScope ["_law_act", "e"] ["_law_act"] (defScope sTried) := ⟨rfl, rfl, rfl, by decide +kernel, rfl, by decide +kernel, by decide +kernel⟩
theorem tried_gives {X : Cx} {q : Str} {g : Addr} {cdg : Value} {cN cL cK cB cS cM cC : Addr} (ct : Cats X.mg cN cL cK cB cS cM cC) :
    LamX.GivesTo X ["_law_act", "e"] "_law_tried" (defScope sTried) g cdg (defBody sTried) "_law_act" q (TTr X.K cN cL cK cB cS cM cC) := by
  intro f c' s H Q tl act hc h
  have nd := scTried.nd
  refine ⟨_, pss_one (ps_try_manyA (i := 1) (n := "e") (X := (cxOf C8.CX0 X.prog X.w X.K X.mg X.base ["_law_act", "e"] "_law_tried" (defScope sTried) g cdg X.A X.stack s H C8.E0).nox)
      (tb := fun W D σ H => ∃ Ech : XK, (∀ cls d σ' H', Ech cls d H' → W cls d σ' H') ∧ σ[0]? = some (some (.ref f)) ∧ H c' = some (LamX.CodeO c' q) ∧ tl Ech H (fun v H1 => ([V.str "told", v] : List V).length ≤ sizeLine ∧ ∀ p, H1 p = none → D.rt (.ref p) (upd H1 p (.tup [.str "told", v]))))
      rfl rfl nd rfl rfl LamX.takes0 (fun W pn xe tk _ => ?_)
      (.cons (test_one ⟨rfl, by decide, .inl ct.n⟩) (fun a oe cls d pn hz hf => pss_one (ps_ret (pe_tup (pa_cons (pe_xfA hz hf (pv 1)) (pa_cons (pe_xfA hz hf (pv 1)) (pa_cons (pe_xfA hz hf (pv 1)) pa_nil))))))
      (.cons (test_two ⟨rfl, by decide, .inl ct.l⟩ ⟨rfl, by decide, .inl ct.k⟩) (fun a oe cls d pn hz hf => pss_one (ps_ret (pe_tup (pa_cons (pe_xfA hz hf (pv 1)) (pa_cons (pe_xfA hz hf (pv 1)) pa_nil)))))
      (.cons (test_one ⟨rfl, by decide, .inl ct.b⟩) (fun a oe cls d pn hz hf => pss_one (ps_ret (pe_tup (pa_cons (pe_xfA hz hf (pv 1)) (pa_cons (pe_xfA hz hf (pv 1)) pa_nil)))))
      (.cons (test_three ⟨rfl, by decide, .inl ct.s⟩ ⟨rfl, by decide, .inl ct.m⟩ ⟨rfl, by decide, .inl ct.c⟩) (fun a oe cls d pn hz hf => pss_one (ps_ret (pe_tup (pa_cons (pe_xfA hz hf (pv 1)) pa_nil)))) .nil))))), ?_⟩
  · refine ⟨fun pins s' σ H' D I h' => ?_⟩
    obtain ⟨Ech, hW, h1, h2, h3⟩ := h'
    exact (pss_one (ps_ret (pe_tup (pa_cons pe_str (pa_cons (act W pn xe Ech _ _ tk hW) pa_nil))))).run pins s' σ H' D I ⟨h1, h2, h3⟩
  · refine ⟨_, ?_, rfl, hc, h⟩
    rintro cls d σ' H' ⟨C, dd, fs, wd, rfl, rfl, wc, hx, hl, k⟩
    refine ⟨false, wc.n, fun z => Bool.noConfusion z, fun _ => ⟨false, wc.l, fun z => Bool.noConfusion z, fun _ => ⟨false, wc.b, fun z => Bool.noConfusion z, fun _ => ⟨true, wc.s, fun _ hlen a na => ?_, fun z => Bool.noConfusion z⟩⟩⟩⟩
    have h1 : 1 < σ'.length := by
      rw [hlen]
      show 1 < 2
      decide
    exact ⟨.ref a, List.getElem?_set_self h1, rfl, C, rfl, wc.xf, wc.no, dd, fs, _, rfl, hx, hl, sz_of (by simp), fun p hp => k p hp⟩
end Hs
namespace Hs
open PySem PySem.Spec PyProof.Rows L2 Evl
/-! ### the head: what the run of the top leaves -/
def oclsB (K : PySem.W.Frag) (C : Addr) (newId : String) (bmB : List Value) : Bool := match K.lookup C with
  | some ⟨.type "type", _, .cls cd, sl⟩ => (match cd.mro, sl.toList with
    | .ref C' :: bm, [_, _, _, _, some (.builtin n), _] => C' == C && n == newId && !cd.hasDel && cd.hasDict && PySem.W.excTail bmB bm
    | _, _ => false)
  | _ => false
theorem ocls_of {K : PySem.W.Frag} {C : Addr} {newId : String} {bmB : List Value} (q : oclsB K C newId bmB = true) : ∃ nm q N bs bm sn sub ab col dd k0 k1 k2 k3 k5, K.lookup C = some (excClassObj nm q C N bs bm true sn sub ab col dd k0 k1 k2 k3 k5 newId) ∧ PySem.W.excTail bmB bm = true := by
  unfold oclsB at q
  split at q
  · rename_i dd cd sl ho
    split at q
    · rename_i C' bm k0 k1 k2 k3 n k5 hm hs
      simp only [Bool.and_eq_true, beq_iff_eq, Bool.not_eq_true'] at q
      obtain ⟨⟨⟨⟨rfl, rfl⟩, hdel⟩, hdc⟩, ht⟩ := q
      obtain ⟨nm, bs, mro, ns, qn, hd, sn, sub, ab, col, del⟩ := cd
      dsimp only at hm hdel hdc
      subst hm hdel hdc
      have hsl : sl = #[k0, k1, k2, k3, some (.builtin n), k5] := by
        obtain ⟨l⟩ := sl
        simp only at hs
        rw [hs]
      subst hsl
      exact ⟨nm, qn, ns, bs, bm, sn, sub, ab, col, dd, k0, k1, k2, k3, k5, ho, ht⟩
    · cases q
  · cases q
def oexB (K : PySem.W.Frag) (C : Addr) (newId : String) (bmB : List Value) : Bool := oclsB K C newId bmB && (He.eqO (PySem.W.findIn K (.ref C) "__setattr__") (some (some (.builtin "object.__setattr__"))) && (decide (PySem.W.subIn K (.ref C) (.type "BaseException") = some true) && (decide (PySem.W.typeIn K (.ref C) = some (.type "type")) && PySem.W.keepIn K (.ref C))))
theorem oexB_ok {K : PySem.W.Frag} {C : Addr} {newId : String} {bmB : List Value} (h : oexB K C newId bmB = true) : OexG K C newId bmB := by
  obtain ⟨h1, h⟩ := He.ba h
  obtain ⟨h2, h⟩ := He.ba h
  obtain ⟨h3, h⟩ := He.ba h
  obtain ⟨h4, h5⟩ := He.ba h
  exact ⟨ocls_of h1, He.eqO_ok h2, of_decide_eq_true h3, of_decide_eq_true h4, h5⟩
/-- an own error: its class's name, the def of its __init__, its default, the file of its code -/
structure ErrD where
  cls : Str
  qual : Str
  st : Stmt
  why : Str
  file : Str
  bas : String
  nid : String
  iid : String
abbrev FnC : Type := Option (Str × Str × Arguments × FuncBody × Scope × Addr × List Str × Addr)
def iniA (K : PySem.W.Frag) (x : Str) : Addr := He.ma K (He.ga K x) "__init__"
def fnC (K : PySem.W.Frag) (x : Str) : FnC := match K.lookup (iniA K x) with
  | some ⟨_, _, .func fd, _⟩ => some (fd.name, fd.qualname, fd.params, fd.body, fd.scope, fd.globals, fd.closure.map (·.1), fd.builtins)
  | _ => none
def ErrD.val (d : ErrD) : FnC := some ("__init__", d.qual, defArgs d.st, .stmts (defBody d.st), defScope d.st, mainGlobals, ["__class__"], builtinsNs)
def fileB (K : PySem.W.Frag) (c : Addr) (file : Str) : Bool := match K.lookup c with
  | some ⟨_, _, .fields vs, _⟩ => (match (vs[2]? : Option Value) with
    | some (.str f _) => file == f
    | _ => false)
  | _ => false
def cellB (K : PySem.W.Frag) (cc C : Addr) : Bool := match K.lookup cc with
  | some ⟨_, _, .cell (some (.ref C')), _⟩ => decide (C' = C)
  | _ => false
def fileV (K : PySem.W.Frag) (file : Str) : Value → Bool
  | .ref c => fileB K c file
  | _ => false
def cloB (K : PySem.W.Frag) (C : Addr) : List (Str × Addr) → Bool
  | [(_, cc)] => cellB K cc C
  | _ => false
/-- the __init__ of d: its code object, its cell -/
def iniB (K : PySem.W.Frag) (d : ErrD) : Bool := match K.lookup (iniA K d.cls) with
  | some ⟨_, _, .func fd, _⟩ => PySem.W.codeIn K fd.code d.qual && (He.dflB K fd.defaults [.str d.why] && (fileV K d.file fd.code && cloB K (He.ga K d.cls) fd.closure))
  | _ => false
def errB (K : PySem.W.Frag) (d : ErrD) : Bool := oexB K (He.ga K d.cls) d.nid (tailOf d.bas) && (iniB K d && (decide (PySem.W.mroIn K (He.ga K d.cls) (.ref (He.ga K d.cls)) = some true) && (He.eqO (PySem.W.ks_superIn K (He.ga K d.cls) (He.ga K d.cls) "__init__") (some (some (.builtin d.iid))) &&
  (decide (PySem.W.subIn K (.ref (He.ga K d.cls)) (.type d.bas) = some true) && (He.eqO (PySem.W.nsIn K cStatics "thirdparty.any") (some none) && (He.eqO (PySem.W.findIn K (.ref (He.ga K d.cls)) "__init__") (some (some (.ref (iniA K d.cls)))) &&
  (decide (PySem.W.typeIn K (.ref (iniA K d.cls)) = some (.type "function")) && He.eqO (PySem.W.findIn K (.ref (He.ga K d.cls)) "word") (some none))))))))
theorem fileB_ok {K : PySem.W.Frag} {c : Addr} {file : Str} (h : fileB K c file = true) : ∃ (ccl : Value) (cdd : Option Addr) (vs : Array Value) (ccs : Array (Option Value)) (f : Str) (tf : Tok), K.lookup c = some ⟨ccl, cdd, .fields vs, ccs⟩ ∧ vs[2]? = some (.str f tf) ∧ (file == f) = true := by
  unfold fileB at h
  split at h
  · rename_i ccl cdd vs ccs hk
    split at h
    · rename_i f tf hv
      exact ⟨ccl, cdd, vs, ccs, f, tf, hk, hv, h⟩
    · cases h
  · cases h
theorem cellB_ok {K : PySem.W.Frag} {cc C : Addr} (h : cellB K cc C = true) : ∃ (cl : Value) (cld : Option Addr) (csl : Array (Option Value)), K.lookup cc = some ⟨cl, cld, .cell (some (.ref C)), csl⟩ := by
  unfold cellB at h
  split at h
  · rename_i cl cld C' csl hk
    have e : C' = C := of_decide_eq_true h
    subst e
    exact ⟨cl, cld, csl, hk⟩
  · cases h
theorem iniB_ok {K : PySem.W.Frag} {d : ErrD} (e : fnC K d.cls = d.val) (h : iniB K d = true) :
    ∃ (c cc : Addr) (fd : FuncData), InitAt K d.qual d.st (iniA K d.cls) c cc [.str d.why] fd ∧ (∃ (ccl : Value) (cdd : Option Addr) (vs : Array Value) (ccs : Array (Option Value)) (f : Str) (tf : Tok), K.lookup c = some ⟨ccl, cdd, .fields vs, ccs⟩ ∧ vs[2]? = some (.str f tf) ∧ (d.file == f) = true) ∧
      ∃ (cl : Value) (cld : Option Addr) (csl : Array (Option Value)), K.lookup cc = some ⟨cl, cld, .cell (some (.ref (He.ga K d.cls))), csl⟩ := by
  unfold fnC at e
  unfold iniB at h
  cases q : K.lookup (iniA K d.cls) with
  | none =>
    rw [q] at h
    cases h
  | some o =>
    obtain ⟨oc, od, dt, osl⟩ := o
    rw [q] at h e
    cases dt with
    | func fd =>
      obtain ⟨n1, n2, n3, n4, n5, n6, n7, n8, n9, n10, n11, n12, n13, n14, n15⟩ := fd
      have e2 : (some (n1, n2, n3, n4, n5, n6, n7.map (·.1), n15) : FnC) = (some (("__init__" : Str), d.qual, defArgs d.st, FuncBody.stmts (defBody d.st), defScope d.st, mainGlobals, [("__class__" : Str)], builtinsNs) : FnC) := e
      simp only [Option.some.injEq, Prod.mk.injEq] at e2
      obtain ⟨h1, h2, h3, h4, h5, h6, h7, h8⟩ := e2
      subst h1 h2 h3 h4 h5 h6 h8
      have h0 : (PySem.W.codeIn K n13 d.qual && (He.dflB K n8 [.str d.why] && (fileV K d.file n13 && cloB K (He.ga K d.cls) n7))) = true := h
      obtain ⟨k1, h0⟩ := He.ba h0
      obtain ⟨k2, h0⟩ := He.ba h0
      obtain ⟨k3, k4⟩ := He.ba h0
      obtain ⟨c, rfl⟩ := He.codeIn_ref k1
      clear e h
      cases n7 with
      | nil => cases h7
      | cons z r =>
        cases r with
        | cons z2 r2 =>
          injection h7 with _ h9
          cases h9
        | nil =>
          obtain ⟨y, cc⟩ := z
          have ey : y = "__class__" := by
            have z : [y] = [("__class__" : Str)] := h7
            injection z
          subst ey
          exact ⟨c, cc, _, ⟨oc, od, n8, n9, n10, n11, n12, n14, osl, rfl, q, k1, He.dflB_ok k2⟩, fileB_ok k3, cellB_ok k4⟩
    | _ => cases h
/-! ### the Hook -/
structure SaysY (fa : List He.Fa) (fn : List He.DefD) (ts : List He.Tab) (tf : List He.Defn) (er : List ErrD) (ex : PySem.W.Frag → Bool) (w : World) (h : Heap) (K : PySem.W.Frag) : Prop where
  x : He.SaysX fa fn ts tf ex w h K
  er : ∀ d ∈ er, errB K d = true ∧ fnC K d.cls = d.val
abbrev AlY : Type := He.AlX × (Bool × List FnC)
def obsK (fa : List He.Fa) (fn : List He.DefD) (ts : List He.Tab) (tf : List He.Defn) (er : List ErrD) (ex : PySem.W.Frag → Bool) (g : Addr → Option Obj) (K : PySem.W.Frag) : AlY := ((He.obsT fa fn ts K, ex K && He.tabsB g tf K), er.all (errB K), er.map fun d => fnC K d.cls)
def valY (fn : List He.DefD) (ts : List He.Tab) (er : List ErrD) (w : World) : AlY := (He.valX fn ts w, true, er.map ErrD.val)
/-- a text that is looked up -/
def strB (r : Option (Option Value)) (z : Str) : Bool := match r with
  | some (some (.str y _)) => decide (y = z)
  | _ => false
theorem strB_ok {r : Option (Option Value)} {z : Str} (h : strB r z = true) : ∃ t, r = some (some (.str z t)) := by
  unfold strB at h
  split at h
  · rename_i y t
    exact ⟨t, by rw [of_decide_eq_true h]⟩
  · cases h
end Hs
namespace Hs
open PySem PySem.Spec PyProof.Rows L2 Evl
/-! ### what the run of the top leaves, looked at by places and entries that are written out: few looks inside the run -/
def entsO : Option Obj → List (Value × Value)
  | some ⟨_, _, .dict es _, _⟩ => es.toList.map fun e => (e.key, e.val)
  | _ => []
def refV : Value → Bool
  | .ref _ => true
  | _ => false
def nsL (L : List (Value × Value)) (x : Str) : Option (Option Value) := match L.find? fun e => e.1.isStr x with
  | some e => some (some e.2)
  | none => if L.any fun e => refV e.1 then none else some none
def gaL (L : List (Value × Value)) (x : Str) : Addr := match nsL L x with
  | some (some (.ref a)) => a
  | _ => 0
theorem nsL_of {K : PySem.W.Frag} {o : Obj} {L : List (Value × Value)} (hk : K.lookup mainGlobals = some o) (h : entsO (some o) = L) (ne : L ≠ []) (x : Str) : PySem.W.nsIn K mainGlobals x = nsL L x := by
  obtain ⟨c, d, dt, sl⟩ := o
  cases dt with
  | dict es n =>
    subst h
    unfold PySem.W.nsIn nsL
    rw [hk]
    show (match es.toList.find? (·.key.isStr x) with
      | some e => some (some e.val)
      | none => if es.toList.any (·.refKey) then none else some none) = _
    unfold entsO
    dsimp only
    rw [List.find?_map, List.any_map]
    have e1 : ((fun e : Value × Value => e.1.isStr x) ∘ fun e : DictEntry => (e.key, e.val)) = fun e => e.key.isStr x := rfl
    have e2 : ((fun e : Value × Value => refV e.1) ∘ fun e : DictEntry => (e.key, e.val)) = fun e => e.refKey := by
      funext e
      unfold DictEntry.refKey refV
      dsimp only [Function.comp]
      cases e.key <;> rfl
    rw [e1, e2]
    cases es.toList.find? (fun e => e.key.isStr x) <;> rfl
  | _ => exact absurd h.symm (fun q => ne q)
theorem gaL_of {K : PySem.W.Frag} {L : List (Value × Value)} {x : Str} (h : PySem.W.nsIn K mainGlobals x = nsL L x) : He.ga K x = gaL L x := by
  unfold He.ga gaL
  rw [h]
  cases nsL L x with
  | none => rfl
  | some o =>
    cases o with
    | none => rfl
    | some v => cases v <;> rfl
/-- facts that the module's entries tell -/
def isG : He.Fa → Bool
  | .glo _ => true
  | .free _ => true
  | .int _ _ => true
  | .str _ _ => true
  | _ => false
def okLZ (L : List (Value × Value)) : He.Fa → Bool
  | .glo x => He.eqO (nsL L x) (some (some (.ref (gaL L x))))
  | .free x => He.eqO (nsL L x) (some none)
  | .int x i => (match nsL L x with
    | some (some (.int j _)) => decide (j = i)
    | _ => false)
  | .str x z => (match nsL L x with
    | some (some (.str y _)) => decide (y = z)
    | _ => false)
  | _ => true
theorem okLZ_of {K : PySem.W.Frag} {L : List (Value × Value)} (h : ∀ x, PySem.W.nsIn K mainGlobals x = nsL L x) : ∀ f : He.Fa, isG f = true → f.ok K = okLZ L f
  | .glo x, _ => by
    show He.eqO (PySem.W.nsIn K mainGlobals x) (some (some (.ref (He.ga K x)))) = _
    rw [h, gaL_of (h x)]
    rfl
  | .free x, _ => by
    show He.eqO (PySem.W.nsIn K mainGlobals x) (some none) = _
    rw [h]
    rfl
  | .int x i, _ => by
    show (match PySem.W.nsIn K mainGlobals x with
      | some (some (.int j _)) => decide (j = i)
      | _ => false) = _
    rw [h]
    rfl
  | .str x z, _ => by
    show (match PySem.W.nsIn K mainGlobals x with
      | some (some (.str y _)) => decide (y = z)
      | _ => false) = _
    rw [h]
    rfl
  | .cls _, z => nomatch z
  | .noat _ _, z => nomatch z
  | .meth _ _, z => nomatch z
  | .mkr _, z => nomatch z
  | .exc _, z => nomatch z
  | .exm _ _ _, z => nomatch z
  | .keep _, z => nomatch z
  | .code _ _, z => nomatch z
abbrev FnWC : Type := Option (Str × Str × Arguments × FuncBody × Scope × Addr × List (Str × Addr) × Addr × Value × Value)
def fnWA (o : Option Obj) : FnWC := match o with
  | some ⟨_, _, .func fd, _⟩ => some (fd.name, fd.qualname, fd.params, fd.body, fd.scope, fd.globals, fd.closure, fd.builtins, fd.code, fd.defaults)
  | _ => none
def valA (d : He.DefD) (c : Addr) : FnWC := some (d.name, d.qual, d.params, .stmts d.body, d.scope, mainGlobals, [], builtinsNs, .ref c, .none)
/-- the name that a code object has -/
def codeNm (o : Option Obj) : Option Str := match o with
  | some ⟨_, _, .fields vs, _⟩ => (match vs.toList with
    | _ :: .str n _ :: _ => some n
    | _ => none)
  | _ => none
def isGd (d : He.DefD) : Bool := d.at_.2.isNone && (d.dfl.isEmpty && d.kwd.isEmpty)
theorem frT_some {g : Addr → Option Obj} {a : Addr} {o : Obj} (hg : g a = some o) (ht : He.emptyTab o = false) : ∀ {as : List Addr}, a ∈ as → (He.frT g as).lookup a = some o
  | [], h => by cases h
  | b :: r, h => by
    unfold He.frT He.frG
    rw [List.filterMap_cons]
    by_cases e : a = b
    · subst e
      rw [hg]
      show List.lookup a (List.filter _ ((a, o) :: _)) = some o
      rw [List.filter_cons_of_pos (by rw [ht] <;> rfl), List.lookup_cons, beq_self_eq_true]
    · have h2 : a ∈ r := (List.mem_cons.mp h).resolve_left e
      have ih := frT_some (g := g) hg ht h2
      unfold He.frT He.frG at ih
      cases hb : g b with
      | none => exact ih
      | some u =>
        show List.lookup a (List.filter _ ((b, u) :: _)) = some o
        rw [List.filter_cons]
        split
        · rw [List.lookup_cons, beq_eq_false_iff_ne.mpr e]
          exact ih
        · exact ih
/-- what is written out fits what is asked -/
def pureB (L : List (Value × Value)) (as asG asC : List Addr) (fa : List He.Fa) (fn : List He.DefD) : Bool := !L.isEmpty && (as.contains mainGlobals && (asG.all (fun a => as.contains a) && ((fa.all (okLZ L)) && (decide ((fn.filter isGd).map (fun d => gaL L d.at_.1) = asG) && (asC.all (fun a => as.contains a) && decide (asC.length = asG.length))))))
abbrev AlZ : Type := (List (Value × Value) × List FnWC) × List (Option Str) × (Bool × List He.FnW) × List (Option (List (Option (Str × Int)))) × Bool × Bool × List FnC
def obsZK (asG asC : List Addr) (fa : List He.Fa) (fn : List He.DefD) (ts : List He.Tab) (tf : List He.Defn) (er : List ErrD) (ex : PySem.W.Frag → Bool) (g : Addr → Option Obj) (K : PySem.W.Frag) : AlZ :=
  ((entsO (g mainGlobals), asG.map fun a => fnWA (g a)), asC.map (fun c => codeNm (g c)), (((fa.filter fun f => !isG f).all fun f => f.ok K) && ((fn.filter fun d => !isGd d).all fun d => d.ok K), (fn.filter fun d => !isGd d).map fun d => He.fnW K d.at_), ts.map (fun t => He.dicW K (t.1 K)), ex K && He.tabsB g tf K, er.all (errB K), er.map fun d => fnC K d.cls)
def obsZ (as asG asC : List Addr) (fa : List He.Fa) (fn : List He.DefD) (ts : List He.Tab) (tf : List He.Defn) (er : List ErrD) (ex : PySem.W.Frag → Bool) (g : Addr → Option Obj) : AlZ := obsZK asG asC fa fn ts tf er ex g (He.frT g as)
def valZ (L : List (Value × Value)) (asC : List Addr) (fn : List He.DefD) (ts : List He.Tab) (er : List ErrD) (w : World) : AlZ := ((L, ((fn.filter isGd).zip asC).map fun p => valA p.1 p.2), (fn.filter isGd).map (fun d => some d.qual), (true, (fn.filter fun d => !isGd d).map He.DefD.val), (He.valT fn ts w).2, true, true, er.map ErrD.val)
theorem saysK_of {as : List Addr} {fa : List He.Fa} {fn : List He.DefD} {ts : List He.Tab} {tf : List He.Defn} {er : List ErrD} {ex : PySem.W.Frag → Bool} {w : World} {h : Heap} (e : obsK fa fn ts tf er ex h.get? (He.frT h.get? as) = valY fn ts er w) : SaysY fa fn ts tf er ex w h (He.frT h.get? as) := by
  have e1 : He.obsT fa fn ts (He.frT h.get? as) = He.valT fn ts w := congrArg (fun z : AlY => z.1.1) e
  have e2 : (ex (He.frT h.get? as) && He.tabsB h.get? tf (He.frT h.get? as)) = true := congrArg (fun z : AlY => z.1.2) e
  have e3 : er.all (errB (He.frT h.get? as)) = true := congrArg (fun z : AlY => z.2.1) e
  have e4 : er.map (fun d => fnC (He.frT h.get? as) d.cls) = er.map ErrD.val := congrArg (fun z : AlY => z.2.2) e
  generalize hK : He.frT h.get? as = K at e1 e2 e3 e4 ⊢
  obtain ⟨h1, h2⟩ := He.ba e2
  have key : ∀ p ∈ tf, PySem.W.codeHdIn K (He.cT K p).1 (He.cT K p).2 = true ∧ ∃ o, h.get? (He.cT K p).2 = some o ∧ He.emptyTab o = true := fun p hp => by
    obtain ⟨h3, h4⟩ := He.ba (List.all_eq_true.mp h2 p hp)
    refine ⟨h3, ?_⟩
    cases q : h.get? (He.cT K p).2 with
    | none =>
      rw [q] at h4
      cases h4
    | some o =>
      rw [q] at h4
      exact ⟨o, rfl, h4⟩
  refine ⟨⟨e1, h1, fun p hp => (key p hp).1, fun p hp => ?_, fun p hp => ?_⟩, fun d hd => ⟨List.all_eq_true.mp e3 d hd, List.map_inj_left.mp e4 d hd⟩⟩
  · obtain ⟨_, o, q, z⟩ := key p hp
    have y := He.frT_none (as := as) q z
    rw [hK] at y
    exact y
  · obtain ⟨_, o, q, z⟩ := key p hp
    rw [q, He.emptyTab_eq z]
theorem fnWA_some {o : Option Obj} {d : He.DefD} {c : Addr} (h : fnWA o = valA d c) : ∃ u, o = some u ∧ He.emptyTab u = false := by
  cases o with
  | none => cases h
  | some u =>
    obtain ⟨c, d, dt, sl⟩ := u
    refine ⟨_, rfl, ?_⟩
    cases dt with
    | func fd => cases c <;> cases d <;> rfl
    | _ => cases h
theorem codeNm_some {o : Option Obj} {q : Str} (h : codeNm o = some q) : ∃ u, o = some u ∧ He.emptyTab u = false := by
  cases o with
  | none => cases h
  | some u =>
    obtain ⟨c, d, dt, sl⟩ := u
    refine ⟨_, rfl, ?_⟩
    cases dt with
    | fields vs =>
      have hv : vs.isEmpty = false := by
        obtain ⟨l⟩ := vs
        cases l with
        | nil => cases h
        | cons x r => rfl
      cases c <;> cases d <;> first | rfl | (show (vs.isEmpty && sl.isEmpty) = false; rw [hv]; rfl)
    | _ => cases h
theorem codeIn_of {K : PySem.W.Frag} {c : Addr} {o : Obj} {q : Str} (hk : K.lookup c = some o) (h : codeNm (some o) = some q) : PySem.W.codeIn K (.ref c) q = true := by
  obtain ⟨a, b, dt, sl⟩ := o
  cases dt with
  | fields vs =>
    unfold PySem.W.codeIn
    dsimp only
    rw [hk]
    obtain ⟨l⟩ := vs
    match l, h with
    | _ :: .str n _ :: _, h =>
      have e : n = q := Option.some.inj h
      subst e
      exact beq_self_eq_true n
  | _ => cases h
theorem saysZ_of {L : List (Value × Value)} {as asG asC : List Addr} {fa : List He.Fa} {fn : List He.DefD} {ts : List He.Tab} {tf : List He.Defn} {er : List ErrD} {ex : PySem.W.Frag → Bool} {w : World} {h : Heap} (p : pureB L as asG asC fa fn = true) (e : obsZ as asG asC fa fn ts tf er ex h.get? = valZ L asC fn ts er w) : SaysY fa fn ts tf er ex w h (He.frT h.get? as) := by
  refine saysK_of ?_
  obtain ⟨p1, p⟩ := He.ba p
  obtain ⟨p2, p⟩ := He.ba p
  obtain ⟨p3, p⟩ := He.ba p
  obtain ⟨p4, p⟩ := He.ba p
  obtain ⟨p5, p⟩ := He.ba p
  obtain ⟨p6, p7⟩ := He.ba p
  have p5 := of_decide_eq_true p5
  have p7 := of_decide_eq_true p7
  have ne : L ≠ [] := fun q => by
    rw [q] at p1
    cases p1
  have q1 : entsO (h.get? mainGlobals) = L := congrArg (fun z : AlZ => z.1.1) e
  have q2 : asG.map (fun a => fnWA (h.get? a)) = ((fn.filter isGd).zip asC).map (fun p => valA p.1 p.2) := congrArg (fun z : AlZ => z.1.2) e
  have q3 : asC.map (fun c => codeNm (h.get? c)) = (fn.filter isGd).map (fun d => some d.qual) := congrArg (fun z : AlZ => z.2.1) e
  have q4 : (((fa.filter fun f => !isG f).all fun f => f.ok (He.frT h.get? as)) && ((fn.filter fun d => !isGd d).all fun d => d.ok (He.frT h.get? as))) = true := congrArg (fun z : AlZ => z.2.2.1.1) e
  have q5 : ((fn.filter fun d => !isGd d).map fun d => He.fnW (He.frT h.get? as) d.at_) = (fn.filter fun d => !isGd d).map He.DefD.val := congrArg (fun z : AlZ => z.2.2.1.2) e
  have q6 : ts.map (fun t => He.dicW (He.frT h.get? as) (t.1 (He.frT h.get? as))) = (He.valT fn ts w).2 := congrArg (fun z : AlZ => z.2.2.2.1) e
  have q7 : (ex (He.frT h.get? as) && He.tabsB h.get? tf (He.frT h.get? as)) = true := congrArg (fun z : AlZ => z.2.2.2.2.1) e
  have q8 : er.all (errB (He.frT h.get? as)) = true := congrArg (fun z : AlZ => z.2.2.2.2.2.1) e
  have q9 : (er.map fun d => fnC (He.frT h.get? as) d.cls) = er.map ErrD.val := congrArg (fun z : AlZ => z.2.2.2.2.2.2) e
  obtain ⟨q4a, q4b⟩ := He.ba q4
  -- the module's object is known
  have hm : ∃ o, h.get? mainGlobals = some o ∧ He.emptyTab o = false := by
    cases z : h.get? mainGlobals with
    | none =>
      rw [z] at q1
      exact absurd q1.symm ne
    | some o =>
      refine ⟨o, rfl, ?_⟩
      rw [z] at q1
      obtain ⟨c, d, dt, sl⟩ := o
      cases dt with
      | dict es n => cases c <;> cases d <;> rfl
      | _ => exact absurd q1.symm ne
  obtain ⟨o, ho, ht⟩ := hm
  have hl : (He.frT h.get? as).lookup mainGlobals = some o := frT_some ho ht (List.contains_iff_mem.mp p2)
  rw [ho] at q1
  have ns := nsL_of hl q1 ne
  have fAd : ∀ d : He.DefD, isGd d = true → He.fAd (He.frT h.get? as) d.at_ = gaL L d.at_.1 := fun d hd => by
    have z : d.at_.2 = none := Option.isNone_iff_eq_none.mp (He.ba hd).1
    unfold He.fAd
    rw [z]
    exact gaL_of (ns _)
  have mG : ∀ d ∈ fn, isGd d = true → ∃ c, fnWA (h.get? (gaL L d.at_.1)) = valA d c ∧ gaL L d.at_.1 ∈ as ∧ codeNm (h.get? c) = some d.qual ∧ c ∈ as := fun d hd hg => by
    obtain ⟨i, hi, ei⟩ := List.mem_iff_getElem.mp (List.mem_filter.mpr ⟨hd, hg⟩)
    have la : asG.length = (fn.filter isGd).length := by rw [← p5, List.length_map]
    have hi3 : i < asC.length := by omega
    have e0 : (fn.filter isGd)[i]? = some d := by rw [List.getElem?_eq_getElem hi, ei]
    have g1 : asG[i]? = some (gaL L d.at_.1) := by
      rw [← p5, List.getElem?_map, e0]
      rfl
    have g2 : asC[i]? = some asC[i] := List.getElem?_eq_getElem hi3
    have z : ((fn.filter isGd).zip asC)[i]? = some (d, asC[i]) := List.getElem?_zip_eq_some.mpr ⟨e0, g2⟩
    have r2 : (asG.map (fun a => fnWA (h.get? a)))[i]? = (((fn.filter isGd).zip asC).map (fun p => valA p.1 p.2))[i]? := by rw [q2]
    have r3 : (asC.map (fun c => codeNm (h.get? c)))[i]? = ((fn.filter isGd).map (fun d => some d.qual))[i]? := by rw [q3]
    rw [List.getElem?_map, g1, List.getElem?_map, z] at r2
    rw [List.getElem?_map, g2, List.getElem?_map, e0] at r3
    exact ⟨asC[i], Option.some.inj r2, List.contains_iff_mem.mp (List.all_eq_true.mp p3 _ (List.mem_of_getElem? g1)), Option.some.inj r3, List.contains_iff_mem.mp (List.all_eq_true.mp p6 _ (List.mem_of_getElem? g2))⟩
  have kG : ∀ d ∈ fn, isGd d = true → He.fnW (He.frT h.get? as) d.at_ = d.val ∧ d.ok (He.frT h.get? as) = true := fun d hd hg => by
    obtain ⟨c, m1, m2, m3, m4⟩ := mG d hd hg
    have fa1 := fAd d hg
    obtain ⟨u, hu, tu⟩ := fnWA_some m1
    have lu := frT_some hu tu m2
    obtain ⟨uc, huc, tuc⟩ := codeNm_some m3
    have lc := frT_some huc tuc m4
    rw [huc] at m3
    rw [hu] at m1
    obtain ⟨z1, z2⟩ := He.ba hg
    obtain ⟨z3, z4⟩ := He.ba z2
    obtain ⟨oc, od, dt, osl⟩ := u
    cases dt with
    | func fd =>
      obtain ⟨n1, n2, n3, n4, n5, n6, n7, n8, n9, n10, n11, n12, n13, n14, n15⟩ := fd
      have e2 : (some (n1, n2, n3, n4, n5, n6, n7, n15, n13, n8) : FnWC) = some (d.name, d.qual, d.params, .stmts d.body, d.scope, mainGlobals, [], builtinsNs, .ref c, .none) := m1
      simp only [Option.some.injEq, Prod.mk.injEq] at e2
      obtain ⟨h1, h2, h3, h4, h5, h6, h7, h8, h9, h10⟩ := e2
      subst h1 h2 h3 h4 h5 h6 h7 h8 h9 h10
      refine ⟨?_, ?_⟩
      · unfold He.fnW
        rw [fa1, lu]
        rfl
      · unfold He.DefD.ok PySem.W.keepIn
        rw [fa1]
        dsimp only
        rw [lu]
        have k1 := codeIn_of lc m3
        have k2 : d.dvs (He.frT h.get? as) = [] := by
          unfold He.DefD.dvs
          rw [List.isEmpty_iff.mp z3] <;> rfl
        have k3 : d.kws (He.frT h.get? as) = [] := by
          unfold He.DefD.kws
          rw [List.isEmpty_iff.mp z4] <;> rfl
        dsimp only
        rw [k1, k2, k3]
        rfl
    | _ => cases m1
  have allFa : (fa.all fun f => f.ok (He.frT h.get? as)) = true := List.all_eq_true.mpr fun f hf => by
    cases c : isG f with
    | true =>
      rw [okLZ_of ns f c]
      exact List.all_eq_true.mp p4 f hf
    | false => exact List.all_eq_true.mp q4a f (List.mem_filter.mpr ⟨hf, by rw [c] <;> rfl⟩)
  have allFn : (fn.all fun d => d.ok (He.frT h.get? as)) = true := List.all_eq_true.mpr fun d hd => by
    cases c : isGd d with
    | true => exact (kG d hd c).2
    | false => exact List.all_eq_true.mp q4b d (List.mem_filter.mpr ⟨hd, by rw [c] <;> rfl⟩)
  have mapFn : (fn.map fun d => He.fnW (He.frT h.get? as) d.at_) = fn.map He.DefD.val := List.map_congr_left fun d hd => by
    cases c : isGd d with
    | true => exact (kG d hd c).1
    | false => exact List.map_inj_left.mp q5 d (List.mem_filter.mpr ⟨hd, by rw [c] <;> rfl⟩)
  have e1 : He.obsT fa fn ts (He.frT h.get? as) = He.valT fn ts w := by
    refine Prod.ext (Prod.ext ?_ mapFn) q6
    show ((fa.all fun f => f.ok (He.frT h.get? as)) && fn.all fun d => d.ok (He.frT h.get? as)) = true
    rw [allFa, allFn]
    rfl
  exact Prod.ext (Prod.ext e1 q7) (Prod.ext q8 q9)
def hookZ (L : List (Value × Value)) (as asG asC : List Addr) (fa : List He.Fa) (fn : List He.DefD) (ts : List He.Tab) (tf : List He.Defn) (er : List ErrD) (ex : PySem.W.Frag → Bool) (p : pureB L as asG asC fa fn = true) : PySem.W.Hook where
  α := AlZ
  obs := fun s => obsZ as asG asC fa fn ts tf er ex s.heap.get?
  val := fun w => valZ L asC fn ts er w
  says := fun w h => ∃ K : PySem.W.Frag, K.In h ∧ SaysY fa fn ts tf er ex w h K
  of := fun _ _ e => ⟨_, He.frT_in, saysZ_of p e⟩
  keeps := fun _ _ _ ⟨K, hK, c⟩ k => ⟨K, PySem.W.Frag.In.keeps hK k, ⟨⟨c.x.t, c.x.more, c.x.hd, c.x.out, fun p hp => k _ _ (c.x.empty p hp)⟩, c.er⟩⟩
theorem obsZ_eq {L : List (Value × Value)} {as asG asC : List Addr} {fa : List He.Fa} {fn : List He.DefD} {ts : List He.Tab} {tf : List He.Defn} {er : List ErrD} {ex : PySem.W.Frag → Bool} {p : pureB L as asG asC fa fn = true} {g : Addr → Option Obj} {s : Shared} (h : ∀ a, g a = s.heap.get? a) : obsZ as asG asC fa fn ts tf er ex g = (hookZ L as asG asC fa fn ts tf er ex p).obs s := by
  have e : g = s.heap.get? := funext h
  rw [e] <;> rfl
/-! ### the run of the top in three: what the law's frame looks at in two, what we look at -/
section
open PySem.W HandSHeadRun PySem.Calls
def RunP {β : Type} (r : OpenRow) (f : SharedT → β) (M : Nat) (v : β) (w : World) : Prop :=
  ∀ os : OsState, (endF (stepQ (denQ tabQ) r.prog w) M r.prog w os).map f = some v
noncomputable def lookZ (r : OpenRow) (w : World) (s : SharedT) : Bool × List Str := (staticsOk (importedModules r.prog.main.body) (boot_heap w.params) s.abs.heap && (s.abs.heap.isNs mainGlobals && (gensDone s.abs && laidKept (boot_heap w.params) s.abs.heap)), s.abs.heap.nsKeys mainGlobals)
noncomputable def seenZ (r : OpenRow) (q : Program) (loose : List Str) (s : SharedT) := seenQ q loose (importedModules r.prog.main.body) (fun s => xlAt q [] s && recOk r.toRowW.records s) s.abs
theorem map_three {α β γ δ β' : Type} {x : Option α} {f : α → β} {g : α → γ} {k : α → δ} {l : α → β'} {a : β} {b : γ} {c : δ} {a' : β'} (h0 : x.map l = some a') (hl : ∀ s, l s = a' → f s = a) (h1 : x.map g = some b) (h2 : x.map k = some c) : x.map (fun s => (f s, g s, k s)) = some (a, b, c) := by
  cases x with
  | none => cases h1
  | some y =>
    have e0 : l y = a' := Option.some.inj h0
    have e1 : g y = b := Option.some.inj h1
    have e2 : k y = c := Option.some.inj h2
    show some (f y, g y, k y) = some (a, b, c)
    rw [hl y e0, e1, e2]
theorem look_of {r : OpenRow} {w : World} {keys : List Str} (hk : (keys.all fun k => startupNames.contains k || r.prog.boundNames.contains k) = true) (s : SharedT) (e : lookZ r w s = (true, keys)) : looksF r.prog (boot_heap w.params) s.abs = true := by
  have e1 : (staticsOk (importedModules r.prog.main.body) (boot_heap w.params) s.abs.heap && (s.abs.heap.isNs mainGlobals && (gensDone s.abs && laidKept (boot_heap w.params) s.abs.heap))) = true := congrArg Prod.fst e
  have e2 : s.abs.heap.nsKeys mainGlobals = keys := congrArg Prod.snd e
  obtain ⟨a, z⟩ := He.ba e1
  obtain ⟨b, z⟩ := He.ba z
  obtain ⟨c, d⟩ := He.ba z
  unfold looksF namesBound
  rw [a, b, c, d, e2, hk]
  rfl
theorem run_three {r : OpenRow} {q : Program} {H : Hook} {ob : SharedT → H.α} {M : Nat} {loose : List Str} {w : World} {keys : List Str} (hk : (keys.all fun k => startupNames.contains k || r.prog.boundNames.contains k) = true) (a : RunP r (lookZ r w) M (true, keys) w) (b : RunP r (seenZ r q loose) M (openGood q loose) w) (c : RunP r ob M (H.val w) w) : RunEq r q H ob M loose w := fun os => map_three (a os) (look_of hk) (b os) (c os)
end
end Hs
namespace Hs
open PySem PySem.Spec PyProof.Rows L2 Evl
/-! ### the facts of the top -/
def dsCheck : He.DefD := ⟨("check_sift", none), "check_sift", "check_sift", defArgs (top 35), defBody (top 35), defScope (top 35), [], []⟩
def dsPlace : He.DefD := ⟨("check_place", none), "check_place", "check_place", defArgs (top 48), defBody (top 48), defScope (top 48), [], []⟩
def dsLightC : He.DefD := ⟨("check_light", none), "check_light", "check_light", defArgs (top 49), defBody (top 49), defScope (top 49), [], []⟩
def dsCounts : He.DefD := ⟨("counts_of", none), "counts_of", "counts_of", defArgs (top 56), defBody (top 56), defScope (top 56), [], []⟩
def dsMany : He.DefD := ⟨("how_many", none), "how_many", "how_many", defArgs (top 52), defBody (top 52), defScope (top 52), [], []⟩
def dsBare : He.DefD := ⟨("bare_floor", none), "bare_floor", "bare_floor", defArgs (top 68), defBody (top 68), defScope (top 68), [], []⟩
def dsFirst : He.DefD := ⟨("first_state", none), "first_state", "first_state", defArgs (top 78), defBody (top 78), defScope (top 78), [], []⟩
def dsWith : He.DefD := ⟨("with_thing", none), "with_thing", "with_thing", defArgs (top 69), defBody (top 69), defScope (top 69), [], []⟩
def dsRoom : He.DefD := ⟨("check_room", none), "check_room", "check_room", defArgs (top 79), defBody (top 79), defScope (top 79), [], []⟩
def dsPut : He.DefD := ⟨("put", none), "put", "put", defArgs (top 80), defBody (top 80), defScope (top 80), [], []⟩
def dsDoLamp : He.DefD := ⟨("do_lamp", none), "do_lamp", "do_lamp", defArgs (top 81), defBody (top 81), defScope (top 81), [], []⟩
def dsDoUns : He.DefD := ⟨("do_unsure", none), "do_unsure", "do_unsure", defArgs (top 82), defBody (top 82), defScope (top 82), [], []⟩
def dsDoPost : He.DefD := ⟨("do_post", none), "do_post", "do_post", defArgs (top 83), defBody (top 83), defScope (top 83), [], []⟩
def dsDoPane : He.DefD := ⟨("do_pane", none), "do_pane", "do_pane", defArgs (top 84), defBody (top 84), defScope (top 84), [], []⟩
def dsApplied : He.DefD := ⟨("applied", none), "applied", "applied", defArgs (top 94), defBody (top 94), defScope (top 94), [], []⟩
def dsSame : He.DefD := ⟨("_law_same", none), "_law_same", "_law_same", defArgs (top 107), defBody (top 107), defScope (top 107), [], []⟩
def dsTried : He.DefD := ⟨("_law_tried", none), "_law_tried", "_law_tried", defArgs (top 109), defBody (top 109), defScope (top 109), [], []⟩
def dsAll : He.DefD := ⟨("_law_all_tried", none), "_law_all_tried", "_law_all_tried", defArgs (top 108), defBody (top 108), defScope (top 108), [], []⟩
def dsPull : He.DefD := ⟨("_law_pull", none), "_law_pull", "_law_pull", defArgs (top 106), defBody (top 106), defScope (top 106), [], []⟩
def dsBag : He.DefD := ⟨("_law_bag", none), "_law_bag", "_law_bag", defArgs (top 105), defBody (top 105), defScope (top 105), [], []⟩
def dsFar : He.DefD := ⟨("_law_far", none), "_law_far", "_law_far", defArgs (top 110), defBody (top 110), defScope (top 110), [], []⟩
def dsGrid : He.DefD := ⟨("_law_grid", none), "_law_grid", "_law_grid", defArgs (top 111), defBody (top 111), defScope (top 111), [], []⟩
def dsSpot : He.DefD := ⟨("_law_spot", none), "_law_spot", "_law_spot", defArgs (top 112), defBody (top 112), defScope (top 112), [], []⟩
def dsOther : He.DefD := ⟨("_law_other_spot", none), "_law_other_spot", "_law_other_spot", defArgs (top 113), defBody (top 113), defScope (top 113), [], []⟩
def dsTint : He.DefD := ⟨("_law_tint", none), "_law_tint", "_law_tint", defArgs (top 114), defBody (top 114), defScope (top 114), [], []⟩
def dsBlock : He.DefD := ⟨("_law_block", none), "_law_block", "_law_block", defArgs (top 115), defBody (top 115), defScope (top 115), [], []⟩
def dsLetters : He.DefD := ⟨("_law_letters", none), "_law_letters", "_law_letters", defArgs (top 116), defBody (top 116), defScope (top 116), [], []⟩
def dsThingD : He.DefD := ⟨("_law_thing_deed", none), "_law_thing_deed", "_law_thing_deed", defArgs (top 117), defBody (top 117), defScope (top 117), [], []⟩
def dsUnsD : He.DefD := ⟨("_law_unsure_deed", none), "_law_unsure_deed", "_law_unsure_deed", defArgs (top 118), defBody (top 118), defScope (top 118), [], []⟩
def dsNewM : He.DefD := ⟨("_law_new", none), "_law_new", "_law_new", defArgs (top 119), defBody (top 119), defScope (top 119), [], []⟩
def dsCopyM : He.DefD := ⟨("_law_copy", none), "_law_copy", "_law_copy", defArgs (top 120), defBody (top 120), defScope (top 120), [], []⟩
def dsBeyond : He.DefD := ⟨("_law_beyond", none), "_law_beyond", "_law_beyond", defArgs (top 121), defBody (top 121), defScope (top 121), [], []⟩
def dsBadC : He.DefD := ⟨("_law_bad_choice", none), "_law_bad_choice", "_law_bad_choice", defArgs (top 122), defBody (top 122), defScope (top 122), [], []⟩
def dsCountsM : He.DefD := ⟨("_law_counts", none), "_law_counts", "_law_counts", defArgs (top 123), defBody (top 123), defScope (top 123), [], []⟩
def dsProd : He.DefD := ⟨("_law_product", none), "_law_product", "_law_product", defArgs (top 124), defBody (top 124), defScope (top 124), [], []⟩
def dsDueL : He.DefD := ⟨("_law_due_lamp", none), "_law_due_lamp", "_law_due_lamp", defArgs (top 125), defBody (top 125), defScope (top 125), [], []⟩
def dsDueT : He.DefD := ⟨("_law_due_thing", none), "_law_due_thing", "_law_due_thing", defArgs (top 126), defBody (top 126), defScope (top 126), [], []⟩
def dsPutM : He.DefD := ⟨("_law_put", none), "_law_put", "_law_put", defArgs (top 127), defBody (top 127), defScope (top 127), [], []⟩
def dsAfter : He.DefD := ⟨("_law_after_put", none), "_law_after_put", "_law_after_put", defArgs (top 128), defBody (top 128), defScope (top 128), [], []⟩
def dsNumD : He.DefD := ⟨("_law_number_due", none), "_law_number_due", "_law_number_due", defArgs (top 129), defBody (top 129), defScope (top 129), [], []⟩
def dsPutDeed : He.DefD := ⟨("_law_put_deed", none), "_law_put_deed", "_law_put_deed", defArgs (top 132), defBody (top 132), defScope (top 132), [], []⟩
def dsThSo : He.DefD := ⟨("_law_things_so", none), "_law_things_so", "_law_things_so", defArgs (top 131), defBody (top 131), defScope (top 131), [], []⟩
def dsTells : He.DefD := ⟨("_law_tells", none), "_law_tells", "_law_tells", defArgs (top 130), defBody (top 130), defScope (top 130), [], []⟩
def dsLaw : He.DefD := ⟨("law", none), "law", "law", defArgs (top 133), defBody (top 133), defScope (top 133), [], []⟩
def dsInit : He.DefD := ⟨("House", some "__init__"), "__init__", "House.__init__", defArgs (inClass (Hs.top 103) 0), defBody (inClass (Hs.top 103) 0), defScope (inClass (Hs.top 103) 0), [], []⟩
def dsDo : He.DefD := ⟨("House", some "do"), "do", "House.do", defArgs (inClass (Hs.top 103) 1), defBody (inClass (Hs.top 103) 1), defScope (inClass (Hs.top 103) 1), [], []⟩
def dsUnsM : He.DefD := ⟨("House", some "unsure"), "unsure", "House.unsure", defArgs (inClass (Hs.top 103) 3), defBody (inClass (Hs.top 103) 3), defScope (inClass (Hs.top 103) 3), [], []⟩
def dsLampsM : He.DefD := ⟨("House", some "lamps"), "lamps", "House.lamps", defArgs (inClass (Hs.top 103) 18), defBody (inClass (Hs.top 103) 18), defScope (inClass (Hs.top 103) 18), [], []⟩
def dsPostsM : He.DefD := ⟨("House", some "posts"), "posts", "House.posts", defArgs (inClass (Hs.top 103) 19), defBody (inClass (Hs.top 103) 19), defScope (inClass (Hs.top 103) 19), [], []⟩
def dsPanesM : He.DefD := ⟨("House", some "panes"), "panes", "House.panes", defArgs (inClass (Hs.top 103) 20), defBody (inClass (Hs.top 103) 20), defScope (inClass (Hs.top 103) 20), [], []⟩
def dsLooksM : He.DefD := ⟨("House", some "looks"), "looks", "House.looks", defArgs (inClass (Hs.top 103) 21), defBody (inClass (Hs.top 103) 21), defScope (inClass (Hs.top 103) 21), [], []⟩
def dsComing : He.DefD := ⟨("House", some "coming"), "coming", "House.coming", defArgs (inClass (Hs.top 103) 23), defBody (inClass (Hs.top 103) 23), defScope (inClass (Hs.top 103) 23), [], []⟩
def dsLenM : He.DefD := ⟨("House", some "__len__"), "__len__", "House.__len__", defArgs (inClass (Hs.top 103) 35), defBody (inClass (Hs.top 103) 35), defScope (inClass (Hs.top 103) 35), [], []⟩
def fn : List He.DefD := [dsCheck, dsPlace, dsLightC, dsCounts, dsMany, dsBare, dsFirst, dsWith, dsRoom, dsPut, dsDoLamp, dsDoUns, dsDoPost, dsDoPane, dsApplied, dsSame, dsTried, dsAll, dsPull, dsBag, dsFar, dsGrid, dsSpot, dsOther, dsTint, dsBlock, dsLetters, dsThingD, dsUnsD, dsNewM, dsCopyM, dsBeyond, dsBadC, dsCountsM, dsProd, dsDueL, dsDueT, dsPutM, dsAfter, dsNumD, dsPutDeed, dsThSo, dsTells, dsLaw, dsInit, dsDo, dsUnsM, dsLampsM, dsPostsM, dsPanesM, dsLooksM, dsComing, dsLenM]
def fa : List He.Fa := [.glo "check_sift", .glo "check_place", .glo "check_light", .glo "counts_of", .glo "how_many", .glo "bare_floor", .glo "first_state", .glo "with_thing", .glo "check_room", .glo "put", .glo "do_lamp", .glo "do_unsure", .glo "do_post", .glo "do_pane", .glo "applied", .glo "_law_same", .glo "_law_tried", .glo "_law_all_tried", .glo "_law_pull", .glo "_law_bag", .glo "_law_far", .glo "_law_grid", .glo "_law_spot", .glo "_law_other_spot", .glo "_law_tint", .glo "_law_block", .glo "_law_letters", .glo "_law_thing_deed", .glo "_law_unsure_deed", .glo "_law_new", .glo "_law_copy", .glo "_law_beyond", .glo "_law_bad_choice", .glo "_law_counts", .glo "_law_product", .glo "_law_due_lamp", .glo "_law_due_thing", .glo "_law_put", .glo "_law_after_put", .glo "_law_number_due", .glo "_law_put_deed", .glo "_law_things_so", .glo "_law_tells", .glo "law", .glo "BadPlace", .glo "BadLight", .glo "BadMenu", .glo "BadBlock", .glo "BadPiece", .glo "BadSift", .glo "Full", .glo "BadSort", .glo "ShadeError", .glo "Missing", .glo "Crowded", .glo "NoThing", .glo "NoLook", .glo "Looked", .glo "BadText", .glo "House", .glo "SIFTS", .glo "SORTS", .glo "FORMS", .glo "DOERS", .free "len", .free "list", .free "int", .free "str", .free "bool", .free "tuple", .free "dict", .free "set", .free "isinstance", .free "all", .free "any", .free "range", .free "super", .free "min", .free "max", .free "abs", .free "sorted", .int "FAR" 1000000, .int "BRIGHT" 1000000, .int "MOST_THINGS" 12, .int "MOST_SETTINGS" 200, .cls "House", .mkr "House", .noat "House" "state", .noat "House" "past", .noat "House" "ahead", .noat "House" "trying", .meth "House" "do", .meth "House" "unsure", .meth "House" "lamps", .meth "House" "posts", .meth "House" "panes", .meth "House" "looks", .meth "House" "coming", .meth "House" "__len__"]
def tb : List He.Tab := [(fun K => He.ga K "FORMS", [("lamp" : Str), ("unsure" : Str), ("post" : Str), ("pane" : Str), ("move" : Str), ("switch" : Str), ("drop" : Str), ("look" : Str), ("strike" : Str), ("settle" : Str), ("many" : Str)]), (fun K => He.ga K "DOERS", [("lamp" : Str), ("unsure" : Str), ("post" : Str), ("pane" : Str), ("move" : Str), ("switch" : Str), ("drop" : Str), ("look" : Str), ("strike" : Str), ("settle" : Str), ("many" : Str)])]
abbrev sBadPlace : Stmt := inClass (top 3) 0
def dBadPlace : ErrD := ⟨"BadPlace", "BadPlace.__init__", sBadPlace, "no such place", "/claim/cut.py", "ValueError", "ValueError.__new__", "ValueError.__init__"⟩
abbrev sBadLight : Stmt := inClass (top 4) 0
def dBadLight : ErrD := ⟨"BadLight", "BadLight.__init__", sBadLight, "no such light", "/claim/cut.py", "ValueError", "ValueError.__new__", "ValueError.__init__"⟩
abbrev sBadMenu : Stmt := inClass (top 8) 0
def dBadMenu : ErrD := ⟨"BadMenu", "BadMenu.__init__", sBadMenu, "no such menu", "/claim/cut.py", "ValueError", "ValueError.__new__", "ValueError.__init__"⟩
abbrev sBadBlock : Stmt := inClass (top 6) 0
def dBadBlock : ErrD := ⟨"BadBlock", "BadBlock.__init__", sBadBlock, "no such block", "/claim/cut.py", "ValueError", "ValueError.__new__", "ValueError.__init__"⟩
abbrev sBadPiece : Stmt := inClass (top 7) 0
def dBadPiece : ErrD := ⟨"BadPiece", "BadPiece.__init__", sBadPiece, "no such piece", "/claim/cut.py", "ValueError", "ValueError.__new__", "ValueError.__init__"⟩
abbrev sBadSift : Stmt := inClass (top 5) 0
def dBadSift : ErrD := ⟨"BadSift", "BadSift.__init__", sBadSift, "no such sift", "/claim/cut.py", "ValueError", "ValueError.__new__", "ValueError.__init__"⟩
abbrev sFull : Stmt := inClass (top 19) 0
def dFull : ErrD := ⟨"Full", "Full.__init__", sFull, "no more have room", "/claim/cut.py", "RuntimeError", "RuntimeError.__new__", "RuntimeError.__init__"⟩
abbrev sBadSort : Stmt := inClass (top 11) 0
def dBadSort : ErrD := ⟨"BadSort", "BadSort.__init__", sBadSort, "no such sort", "/claim/cut.py", "ValueError", "ValueError.__new__", "ValueError.__init__"⟩
def wordB (K : PySem.W.Frag) (C cN cL cK cB cS cM cC : Addr) : Bool := decide (PySem.W.exmOne K (.ref C) (.ref cN) = some false) && (decide (PySem.W.exmAny K (.ref C) [.ref cL, .ref cK] = some false) && (decide (PySem.W.exmOne K (.ref C) (.ref cB) = some false) && (decide (PySem.W.exmAny K (.ref C) [.ref cS, .ref cM, .ref cC] = some true) && (xfB K C && He.eqO (PySem.W.findIn K (.ref C) "word") (some none)))))
theorem wordB_ok {K : PySem.W.Frag} {C cN cL cK cB cS cM cC : Addr} (h : wordB K C cN cL cK cB cS cM cC = true) : Word K C cN cL cK cB cS cM cC := by
  obtain ⟨h1, h⟩ := He.ba h
  obtain ⟨h2, h⟩ := He.ba h
  obtain ⟨h3, h⟩ := He.ba h
  obtain ⟨h4, h⟩ := He.ba h
  obtain ⟨h5, h6⟩ := He.ba h
  exact ⟨of_decide_eq_true h1, of_decide_eq_true h2, of_decide_eq_true h3, of_decide_eq_true h4, xfB_ok h5, He.eqO_ok h6⟩
def exB (K : PySem.W.Frag) : Bool := He.tupB K "SIFTS" [.str "", .str "r", .str "g", .str "b", .str "rg", .str "rb", .str "gb", .str "rgb"] && (He.tupB K "SORTS" [.str "lamp", .str "post", .str "pane"] && (strB (PySem.W.nsIn K (He.ga K "FORMS") "lamp") "nnnnn" && (strB (PySem.W.nsIn K (He.ga K "FORMS") "unsure") "c" && (strB (PySem.W.nsIn K (He.ga K "FORMS") "post") "nnnn" && (strB (PySem.W.nsIn K (He.ga K "FORMS") "pane") "nnnns" && (He.eqO (PySem.W.nsIn K (He.ga K "DOERS") "lamp") (some (some (.ref (He.ga K "do_lamp")))) && (He.eqO (PySem.W.nsIn K (He.ga K "DOERS") "unsure") (some (some (.ref (He.ga K "do_unsure")))) && (He.eqO (PySem.W.nsIn K (He.ga K "DOERS") "post") (some (some (.ref (He.ga K "do_post")))) && (He.eqO (PySem.W.nsIn K (He.ga K "DOERS") "pane") (some (some (.ref (He.ga K "do_pane")))) && (decide (He.ga K "do_unsure" ≠ He.ga K "do_lamp") && (decide (He.ga K "do_post" ≠ He.ga K "do_lamp") && (decide (He.ga K "do_post" ≠ He.ga K "do_unsure") && (decide (He.ga K "do_pane" ≠ He.ga K "do_lamp") && (decide (He.ga K "do_pane" ≠ He.ga K "do_unsure") && (decide (He.ga K "do_pane" ≠ He.ga K "do_post") && (wordB K (He.ga K "BadPlace") (He.ga K "NoThing") (He.ga K "NoLook") (He.ga K "Looked") (He.ga K "BadText") (He.ga K "ShadeError") (He.ga K "Missing") (He.ga K "Crowded") && (wordB K (He.ga K "BadLight") (He.ga K "NoThing") (He.ga K "NoLook") (He.ga K "Looked") (He.ga K "BadText") (He.ga K "ShadeError") (He.ga K "Missing") (He.ga K "Crowded") && (wordB K (He.ga K "BadMenu") (He.ga K "NoThing") (He.ga K "NoLook") (He.ga K "Looked") (He.ga K "BadText") (He.ga K "ShadeError") (He.ga K "Missing") (He.ga K "Crowded") && (wordB K (He.ga K "BadBlock") (He.ga K "NoThing") (He.ga K "NoLook") (He.ga K "Looked") (He.ga K "BadText") (He.ga K "ShadeError") (He.ga K "Missing") (He.ga K "Crowded") && (wordB K (He.ga K "BadPiece") (He.ga K "NoThing") (He.ga K "NoLook") (He.ga K "Looked") (He.ga K "BadText") (He.ga K "ShadeError") (He.ga K "Missing") (He.ga K "Crowded") && (wordB K (He.ga K "BadSift") (He.ga K "NoThing") (He.ga K "NoLook") (He.ga K "Looked") (He.ga K "BadText") (He.ga K "ShadeError") (He.ga K "Missing") (He.ga K "Crowded") && (wordB K (He.ga K "Full") (He.ga K "NoThing") (He.ga K "NoLook") (He.ga K "Looked") (He.ga K "BadText") (He.ga K "ShadeError") (He.ga K "Missing") (He.ga K "Crowded") && (wordB K (He.ga K "BadSort") (He.ga K "NoThing") (He.ga K "NoLook") (He.ga K "Looked") (He.ga K "BadText") (He.ga K "ShadeError") (He.ga K "Missing") (He.ga K "Crowded") && (decide (He.tabOf K (He.codeOf K ("_law_tells", none)) ≠ He.tabOf K (He.codeOf K ("law", none))) && (He.eqO (PySem.W.findIn K (.ref (He.ga K "House")) "__bool__") (some none))))))))))))))))))))))))))
def lit : List (Value × Value) := [(.str "__name__" 165, .str "law_hueshade_k42_things_put_on_a_floor" 1704), (.str "__doc__" 166, .none), (.str "__package__" 167, .none), (.str "__loader__" 168, .builtin "__main__.__loader__#opaque"), (.str "__spec__" 169, .none), (.str "__annotations__" 170, .ref 6), (.str "__builtins__" 171, .ref 4), (.str "__file__" 173, .str "/claim/cut.py" 172), (.str "__cached__" 174, .none), (.str "_wall" 193, .ref 21), (.str "ShadeError" 213, .ref 31), (.str "BadPlace" 241, .ref 54), (.str "BadLight" 269, .ref 76), (.str "BadSift" 297, .ref 98), (.str "BadBlock" 325, .ref 120), (.str "BadPiece" 353, .ref 142), (.str "BadMenu" 381, .ref 164), (.str "BadChoice" 409, .ref 186), (.str "BadSetting" 437, .ref 208), (.str "BadSort" 465, .ref 230), (.str "BadDeed" 493, .ref 252), (.str "BadText" 522, .ref 274), (.str "Unknown" 550, .ref 296), (.str "Missing" 568, .ref 308), (.str "NoThing" 598, .ref 330), (.str "NoLook" 626, .ref 351), (.str "Crowded" 644, .ref 363), (.str "Full" 672, .ref 386), (.str "Looked" 700, .ref 407), (.str "TooMany" 728, .ref 429), (.str "FAR" 730, .int (1000000) 729), (.str "lean" 743, .ref 438), (.str "side" 753, .ref 445), (.str "box_around" 764, .ref 452), (.str "blocks_meet" 772, .ref 459), (.str "beside" 778, .ref 464), (.str "pieces_meet" 786, .ref 471), (.str "block_meets" 798, .ref 478), (.str "BRIGHT" 802, .int (1000000) 801), (.str "SIFTS" 811, .ref 479), (.str "DARK" 815, .ref 480), (.str "check_sift" 822, .ref 487), (.str "sifted" 833, .ref 494), (.str "summed" 844, .ref 501), (.str "both_sifts" 850, .ref 506), (.str "ALL_COLOURS" 854, .str "rgb" 853), (.str "figures_of" 860, .ref 511), (.str "let_by" 871, .ref 518), (.str "let_by_all" 883, .ref 525), (.str "brought" 892, .ref 532), (.str "choice_lights" 898, .ref 537), (.str "picked_light" 904, .ref 542), (.str "check_place" 912, .ref 547), (.str "check_light" 920, .ref 554), (.str "MOST_SETTINGS" 924, .int (200) 923), (.str "how_many" 933, .ref 561), (.str "all_rows" 940, .ref 567), (.str "row_number" 951, .ref 574), (.str "counts_of" 959, .ref 579), (.str "settings_of" 966, .ref 586), (.str "checked_setting" 975, .ref 593), (.str "picks_of" 988, .ref 600), (.str "setting_lights" 994, .ref 605), (.str "look_answers" 1000, .ref 610), (.str "all_meet" 1006, .ref 615), (.str "fitting" 1012, .ref 620), (.str "MOST_THINGS" 1014, .int (12) 1013), (.str "MOST_LOOKS" 1016, .int (24) 1015), (.str "SORTS" 1020, .ref 621), (.str "bare_floor" 1028, .ref 626), (.str "with_thing" 1038, .ref 633), (.str "without_thing" 1044, .ref 638), (.str "thing_of" 1053, .ref 645), (.str "shifted_place" 1062, .ref 652), (.str "shifted" 1068, .ref 657), (.str "places_of" 1074, .ref 662), (.str "with_moved" 1086, .ref 669), (.str "FORMS" 1120, .ref 670), (.str "first_state" 1128, .ref 677), (.str "check_room" 1136, .ref 684), (.str "put" 1149, .ref 691), (.str "do_lamp" 1161, .ref 698), (.str "do_unsure" 1171, .ref 705), (.str "do_post" 1182, .ref 712), (.str "do_pane" 1195, .ref 719), (.str "do_move" 1209, .ref 726), (.str "do_switch" 1222, .ref 733), (.str "do_drop" 1238, .ref 740), (.str "do_look" 1255, .ref 747), (.str "do_strike" 1261, .ref 752), (.str "with_choice" 1272, .ref 759), (.str "do_settle" 1278, .ref 764), (.str "do_many" 1284, .ref 769), (.str "DOERS" 1307, .ref 770), (.str "applied" 1317, .ref 777), (.str "thing_text" 1326, .ref 784), (.str "words_text" 1332, .ref 789), (.str "row_text" 1338, .ref 794), (.str "deed_rows" 1344, .ref 799), (.str "page_text" 1350, .ref 804), (.str "WHITE" 1356, .ref 805), (.str "House" 1703, .ref 1076), (.str "_law_bag" 1714, .ref 1087), (.str "_law_pull" 1725, .ref 1094), (.str "_law_same" 1731, .ref 1099), (.str "_law_all_tried" 1737, .ref 1104), (.str "_law_tried" 1745, .ref 1111), (.str "_law_far" 1753, .ref 1118), (.str "_law_grid" 1761, .ref 1125), (.str "_law_spot" 1773, .ref 1132), (.str "_law_other_spot" 1783, .ref 1139), (.str "_law_tint" 1793, .ref 1146), (.str "_law_block" 1805, .ref 1153), (.str "_law_letters" 1812, .ref 1160), (.str "_law_thing_deed" 1822, .ref 1167), (.str "_law_unsure_deed" 1835, .ref 1174), (.str "_law_new" 1842, .ref 1181), (.str "_law_copy" 1851, .ref 1188), (.str "_law_beyond" 1857, .ref 1193), (.str "_law_bad_choice" 1863, .ref 1198), (.str "_law_counts" 1869, .ref 1203), (.str "_law_product" 1878, .ref 1210), (.str "_law_due_lamp" 1890, .ref 1217), (.str "_law_due_thing" 1898, .ref 1224), (.str "_law_put" 1909, .ref 1231), (.str "_law_after_put" 1918, .ref 1238), (.str "_law_number_due" 1927, .ref 1245), (.str "_law_tells" 1940, .ref 1252), (.str "_law_things_so" 1946, .ref 1257), (.str "_law_put_deed" 1952, .ref 1262), (.str "law" 1970, .ref 1269)]
def adr : List Addr := [2, 3, 54, 76, 164, 120, 142, 98, 386, 230, 31, 308, 363, 330, 351, 407, 274, 1076, 479, 621, 670, 770, 53, 75, 163, 119, 141, 97, 385, 229, 30, 307, 362, 329, 350, 406, 273, 1075, 726, 733, 740, 747, 752, 764, 769, 819, 826, 841, 946, 951, 956, 961, 975, 1059, 51, 73, 161, 117, 139, 95, 383, 227, 818, 825, 840, 945, 950, 955, 960, 974, 1058, 50, 43, 38, 72, 65, 60, 160, 153, 148, 116, 109, 104, 138, 131, 126, 94, 87, 82, 382, 375, 370, 226, 219, 214, 487, 547, 554, 579, 561, 626, 677, 633, 684, 691, 698, 705, 712, 719, 777, 1099, 1111, 1104, 1094, 1087, 1118, 1125, 1132, 1139, 1146, 1153, 1160, 1167, 1174, 1181, 1188, 1193, 1198, 1203, 1210, 1217, 1224, 1231, 1238, 1245, 1262, 1257, 1252, 1269, 486, 546, 553, 578, 560, 625, 676, 632, 683, 690, 697, 704, 711, 718, 776, 1098, 1110, 1103, 1093, 1086, 1117, 1124, 1131, 1138, 1145, 1152, 1159, 1166, 1173, 1180, 1187, 1192, 1197, 1202, 1209, 1216, 1223, 1230, 1237, 1244, 1261, 1256, 1251, 1268]
def adrG : List Addr := [487, 547, 554, 579, 561, 626, 677, 633, 684, 691, 698, 705, 712, 719, 777, 1099, 1111, 1104, 1094, 1087, 1118, 1125, 1132, 1139, 1146, 1153, 1160, 1167, 1174, 1181, 1188, 1193, 1198, 1203, 1210, 1217, 1224, 1231, 1238, 1245, 1262, 1257, 1252, 1269]
def adrC : List Addr := [486, 546, 553, 578, 560, 625, 676, 632, 683, 690, 697, 704, 711, 718, 776, 1098, 1110, 1103, 1093, 1086, 1117, 1124, 1131, 1138, 1145, 1152, 1159, 1166, 1173, 1180, 1187, 1192, 1197, 1202, 1209, 1216, 1223, 1230, 1237, 1244, 1261, 1256, 1251, 1268]
def keys : List Str := [("__name__" : Str), ("__doc__" : Str), ("__package__" : Str), ("__loader__" : Str), ("__spec__" : Str), ("__annotations__" : Str), ("__builtins__" : Str), ("__file__" : Str), ("__cached__" : Str), ("_wall" : Str), ("ShadeError" : Str), ("BadPlace" : Str), ("BadLight" : Str), ("BadSift" : Str), ("BadBlock" : Str), ("BadPiece" : Str), ("BadMenu" : Str), ("BadChoice" : Str), ("BadSetting" : Str), ("BadSort" : Str), ("BadDeed" : Str), ("BadText" : Str), ("Unknown" : Str), ("Missing" : Str), ("NoThing" : Str), ("NoLook" : Str), ("Crowded" : Str), ("Full" : Str), ("Looked" : Str), ("TooMany" : Str), ("FAR" : Str), ("lean" : Str), ("side" : Str), ("box_around" : Str), ("blocks_meet" : Str), ("beside" : Str), ("pieces_meet" : Str), ("block_meets" : Str), ("BRIGHT" : Str), ("SIFTS" : Str), ("DARK" : Str), ("check_sift" : Str), ("sifted" : Str), ("summed" : Str), ("both_sifts" : Str), ("ALL_COLOURS" : Str), ("figures_of" : Str), ("let_by" : Str), ("let_by_all" : Str), ("brought" : Str), ("choice_lights" : Str), ("picked_light" : Str), ("check_place" : Str), ("check_light" : Str), ("MOST_SETTINGS" : Str), ("how_many" : Str), ("all_rows" : Str), ("row_number" : Str), ("counts_of" : Str), ("settings_of" : Str), ("checked_setting" : Str), ("picks_of" : Str), ("setting_lights" : Str), ("look_answers" : Str), ("all_meet" : Str), ("fitting" : Str), ("MOST_THINGS" : Str), ("MOST_LOOKS" : Str), ("SORTS" : Str), ("bare_floor" : Str), ("with_thing" : Str), ("without_thing" : Str), ("thing_of" : Str), ("shifted_place" : Str), ("shifted" : Str), ("places_of" : Str), ("with_moved" : Str), ("FORMS" : Str), ("first_state" : Str), ("check_room" : Str), ("put" : Str), ("do_lamp" : Str), ("do_unsure" : Str), ("do_post" : Str), ("do_pane" : Str), ("do_move" : Str), ("do_switch" : Str), ("do_drop" : Str), ("do_look" : Str), ("do_strike" : Str), ("with_choice" : Str), ("do_settle" : Str), ("do_many" : Str), ("DOERS" : Str), ("applied" : Str), ("thing_text" : Str), ("words_text" : Str), ("row_text" : Str), ("deed_rows" : Str), ("page_text" : Str), ("WHITE" : Str), ("House" : Str), ("_law_bag" : Str), ("_law_pull" : Str), ("_law_same" : Str), ("_law_all_tried" : Str), ("_law_tried" : Str), ("_law_far" : Str), ("_law_grid" : Str), ("_law_spot" : Str), ("_law_other_spot" : Str), ("_law_tint" : Str), ("_law_block" : Str), ("_law_letters" : Str), ("_law_thing_deed" : Str), ("_law_unsure_deed" : Str), ("_law_new" : Str), ("_law_copy" : Str), ("_law_beyond" : Str), ("_law_bad_choice" : Str), ("_law_counts" : Str), ("_law_product" : Str), ("_law_due_lamp" : Str), ("_law_due_thing" : Str), ("_law_put" : Str), ("_law_after_put" : Str), ("_law_number_due" : Str), ("_law_tells" : Str), ("_law_things_so" : Str), ("_law_put_deed" : Str), ("law" : Str)]
theorem pure_ok : pureB lit adr adrG adrC fa fn = true := by kernel_rfl
abbrev R : PySem.W.OpenRow := PySem.W.OpenLaw.row PySem.Challenge.rw_hueshade_k42_things_put_on_a_floor
theorem keys_ok : (keys.all fun k => PySem.startupNames.contains k || R.prog.boundNames.contains k) = true := by kernel_rfl
abbrev hk : PySem.W.Hook := hookZ lit adr adrG adrC fa fn tb [("_law_tells", none), ("law", none)] [dBadPlace, dBadLight, dBadMenu, dBadBlock, dBadPiece, dBadSift, dFull, dBadSort] exB pure_ok
def ob (s : PySem.W.SharedT) : AlZ := obsZ adr adrG adrC fa fn tb [("_law_tells", none), ("law", none)] [dBadPlace, dBadLight, dBadMenu, dBadBlock, dBadPiece, dBadSift, dFull, dBadSort] exB (HandSHeadRun.getT s)
theorem ob_eq (s : PySem.W.SharedT) : ob s = hk.obs s.abs := obsZ_eq (p := pure_ok) (HandSHeadRun.getT_eq s)
abbrev others : List Str := [("_wall" : Str), ("__name__" : Str), ("ShadeError" : Str), ("BadPlace" : Str), ("BadLight" : Str), ("BadSift" : Str), ("BadBlock" : Str), ("BadPiece" : Str), ("BadMenu" : Str), ("BadChoice" : Str), ("BadSetting" : Str), ("BadSort" : Str), ("BadDeed" : Str), ("BadText" : Str), ("Unknown" : Str), ("Missing" : Str), ("NoThing" : Str), ("NoLook" : Str), ("Crowded" : Str), ("Full" : Str), ("Looked" : Str), ("TooMany" : Str), ("FAR" : Str), ("lean" : Str), ("side" : Str), ("box_around" : Str), ("blocks_meet" : Str), ("beside" : Str), ("pieces_meet" : Str), ("block_meets" : Str), ("BRIGHT" : Str), ("SIFTS" : Str), ("DARK" : Str), ("check_sift" : Str), ("sifted" : Str), ("summed" : Str), ("both_sifts" : Str), ("ALL_COLOURS" : Str), ("figures_of" : Str), ("let_by" : Str), ("let_by_all" : Str), ("brought" : Str), ("choice_lights" : Str), ("picked_light" : Str), ("check_place" : Str), ("check_light" : Str), ("MOST_SETTINGS" : Str), ("how_many" : Str), ("all_rows" : Str), ("row_number" : Str), ("counts_of" : Str), ("settings_of" : Str), ("checked_setting" : Str), ("picks_of" : Str), ("setting_lights" : Str), ("look_answers" : Str), ("all_meet" : Str), ("fitting" : Str), ("MOST_THINGS" : Str), ("MOST_LOOKS" : Str), ("SORTS" : Str), ("bare_floor" : Str), ("with_thing" : Str), ("without_thing" : Str), ("thing_of" : Str), ("shifted_place" : Str), ("shifted" : Str), ("places_of" : Str), ("with_moved" : Str), ("FORMS" : Str), ("first_state" : Str), ("check_room" : Str), ("put" : Str), ("do_lamp" : Str), ("do_unsure" : Str), ("do_post" : Str), ("do_pane" : Str), ("do_move" : Str), ("do_switch" : Str), ("do_drop" : Str), ("do_look" : Str), ("do_strike" : Str), ("with_choice" : Str), ("do_settle" : Str), ("do_many" : Str), ("DOERS" : Str), ("applied" : Str), ("thing_text" : Str), ("words_text" : Str), ("row_text" : Str), ("deed_rows" : Str), ("page_text" : Str), ("WHITE" : Str), ("House" : Str), ("_law_bag" : Str), ("_law_pull" : Str), ("_law_same" : Str), ("_law_all_tried" : Str), ("_law_tried" : Str), ("_law_far" : Str), ("_law_grid" : Str), ("_law_spot" : Str), ("_law_other_spot" : Str), ("_law_tint" : Str), ("_law_block" : Str), ("_law_letters" : Str), ("_law_thing_deed" : Str), ("_law_unsure_deed" : Str), ("_law_new" : Str), ("_law_copy" : Str), ("_law_beyond" : Str), ("_law_bad_choice" : Str), ("_law_counts" : Str), ("_law_product" : Str), ("_law_due_lamp" : Str), ("_law_due_thing" : Str), ("_law_put" : Str), ("_law_after_put" : Str), ("_law_number_due" : Str), ("_law_tells" : Str), ("_law_things_so" : Str), ("_law_put_deed" : Str)]
theorem runTa (w : World) : RunP R (lookZ R (w.withFollow "special-get-raises" true)) 20000 (true, keys) (w.withFollow "special-get-raises" true) := by
  intro os
  kernel_rfl
theorem runTb (w : World) : RunP R (seenZ R (PySem.W.view R.prog [133]) others) 20000 (PySem.W.openGood (PySem.W.view R.prog [133]) others) (w.withFollow "special-get-raises" true) := by
  intro os
  kernel_rfl
theorem runTc (w : World) : RunP R ob 20000 (valZ lit adrC fn tb [dBadPlace, dBadLight, dBadMenu, dBadBlock, dBadPiece, dBadSift, dFull, dBadSort] (w.withFollow "special-get-raises" true)) (w.withFollow "special-get-raises" true) := by
  intro os
  kernel_rfl
theorem runFa (w : World) : RunP R (lookZ R (w.withFollow "special-get-raises" false)) 20000 (true, keys) (w.withFollow "special-get-raises" false) := by
  intro os
  kernel_rfl
theorem runFb (w : World) : RunP R (seenZ R (PySem.W.view R.prog [133]) others) 20000 (PySem.W.openGood (PySem.W.view R.prog [133]) others) (w.withFollow "special-get-raises" false) := by
  intro os
  kernel_rfl
theorem runFc (w : World) : RunP R ob 20000 (valZ lit adrC fn tb [dBadPlace, dBadLight, dBadMenu, dBadBlock, dBadPiece, dBadSift, dFull, dBadSort] (w.withFollow "special-get-raises" false)) (w.withFollow "special-get-raises" false) := by
  intro os
  kernel_rfl
theorem run (w : World) : HandSHeadRun.RunEq R (PySem.W.view R.prog [133]) hk ob 20000 others w := by
  have h : ∀ b : Bool, HandSHeadRun.RunEq R (PySem.W.view R.prog [133]) hk ob 20000 others (w.withFollow "special-get-raises" b) := fun b => match b with
    | true => run_three keys_ok (runTa w) (runTb w) (runTc w)
    | false => run_three keys_ok (runFa w) (runFb w) (runFc w)
  have z := h (w.params.followText "special-get-raises")
  rwa [World.withFollow_self] at z
end Hs
namespace Hs
open PySem PySem.W PySem.Calls PyProof.Rows
theorem pre_lo : looksOpen R.prog = true := by
  unfold looksOpen
  simp only [Bool.and_eq_true]
  refine ⟨⟨⟨⟨⟨?_, ?_⟩, ?_⟩, ?_⟩, ?_⟩, ?_⟩
  all_goals decide +kernel
theorem pre_ps : R.partSaid = true := by
  unfold OpenRow.partSaid
  rw [pre_lo]
  decide +kernel
theorem pre_ws : R.wellSaid = true := by
  unfold OpenRow.wellSaid
  rw [pre_ps]
  decide +kernel
theorem pre_l : PySem.Challenge.rw_hueshade_k42_things_put_on_a_floor.wellSaid = true := by
  unfold OpenLaw.wellSaid
  rw [show (PySem.Challenge.rw_hueshade_k42_things_put_on_a_floor).row.wellSaid = true from pre_ws]
  simp only [Bool.and_eq_true]
  refine ⟨⟨⟨⟨⟨⟨⟨⟨⟨⟨⟨⟨⟨⟨⟨⟨⟨?_, ?_⟩, ?_⟩, ?_⟩, ?_⟩, ?_⟩, ?_⟩, ?_⟩, ?_⟩, ?_⟩, ?_⟩, ?_⟩, ?_⟩, ?_⟩, ?_⟩, ?_⟩, ?_⟩, ?_⟩
  all_goals decide +kernel
end Hs
namespace Hs
open PySem PySem.W PySem.Calls PyProof.Rows
/-! ### what the end asks of the text, ahead of the rest -/
theorem pre_e : opening R.prog = plainProg R.prog.main.scope.names := by kernel_rfl
theorem pre_f (s : Shared) : fenceModules? R.prog s = some s := by kernel_rfl
theorem pre_def : defOf (view R.prog [133]) R.name = some (HandSHeadRun.topDef R.prog 133, []) := by kernel_rfl
theorem pre_p : R.prog.theDef R.name = some ((HandSHeadRun.topDef R.prog 133).params, (HandSHeadRun.topDef R.prog 133).body, (HandSHeadRun.topDef R.prog 133).scope) := by kernel_rfl
theorem pre_k : kwWritten? (HandSHeadRun.topDef R.prog 133).params.kwonlyargs (HandSHeadRun.topDef R.prog 133).params.kw_defaults = some [] := by kernel_rfl
theorem pre_ok : (chainsOk (view R.prog [133]) && opensWell R.prog && (frees R.toRowW && R.within.isEmpty)) = true := by decide +kernel
theorem pre_b : R.prog.bare := ⟨rfl, rfl, rfl, rfl, rfl, by decide +kernel⟩
end Hs
namespace Hs
open PySem PySem.W PySem.Calls PyProof.Rows
theorem pre_w : (PySem.W.OpenLaw.row PySem.Challenge.rw_hueshade_k42_things_put_on_a_floor).toRowW.promised := by w_witness2
end Hs
namespace Hs
/-! ### fractions in lowest terms -/
/-- the common part, with the sign of the bottom -/
def sg (a b : Int) : Int := if b < 0 then -(Int.gcd a b : Int) else (Int.gcd a b : Int)
def low (a b : Int) : Int × Int := (a.fdiv (sg a b), b.fdiv (sg a b))
end Hs
namespace Hs
open PySem PySem.Spec PyProof.Rows L2 Evl
section
variable {P : Program} {w : World} {K : PySem.W.Frag} {mg : Str → Option Value} {base : Heap} {f : Addr} {fd : FuncData}
abbrev sPull : Stmt := top 106
theorem scPull : FnScope ["_law_bag_here", "_law_many", "_law_cell", "_law_got", "_law_wider"] ["_law_bag_here", "_law_many"] (defScope sPull) := ⟨rfl, rfl, rfl, by decide +kernel, rfl, by decide +kernel, by decide +kernel⟩
theorem ok_pull (F : FnP K "_law_pull" sPull f fd) (g_len : mg "len" = none) : FnOk P w K mg base CX0 1 f fd ["_law_bag_here", "_law_many"] spPull := by
  have nd := scPull.nd
  refine F.ok scPull (fun vs H Q E h => ?_) (fun cdv A outer s H vs Q E hr h => ⟨_, PSs.nox (Evl.pss_cut (ps_if (PW.pt (pw_and (pt_cmpR op_eq (pe_ix (r := rIxL K) ix_list (pv 0) pe_int (fun _ _ => rfl)) pe_int (nomark _)) (pw_and1 (pt_cmpR op_lt (pe_ix (r := rIxL K) ix_list (pv 0) pe_int (fun _ _ => rfl)) (pe_callB (r := Evl.rLenS K) call_len_seq (by rfl) g_len PySem.boot_len (pa_cons (pe_ix (r := rIxL K) ix_list (pv 0) pe_int (fun _ _ => rfl)) pa_nil)) (nomark _))))) (pss_cons (ps_set (i := 2) nd rfl (.inl rfl) (pe_ix (r := rIxL K) ix_list (pe_ix (r := rIxL K) ix_list (pv 0) pe_int (fun _ _ => rfl)) (pe_ix (r := rIxL K) ix_list (pv 0) pe_int (fun _ _ => rfl)) (fun _ _ => rfl)))
  (pss_cons (ps_asg (pe_op op_add (pe_ix (r := rIxL K) ix_list (pv 0) pe_int (fun _ _ => rfl)) pe_int) (pg_sub (pv 0) pe_int set_list))
  (pss_one (ps_if (pt_cmpR op_ge (pv 2) (pe_op op_pow pe_int pe_int) (nomark _)) (pss_one (ps_asg (pv 2) (pg_sub (pv 0) pe_int set_list))) (pss_one (ps_asg (pe_op op_modN (pe_op op_add (pe_op op_add (pe_op op_mulW (pe_ix (r := rIxL K) ix_list (pv 0) pe_int (fun _ _ => rfl)) pe_int) (pe_op op_modN (pv 2) pe_int)) pe_int) pe_int) (pg_sub (pv 0) pe_int set_list))))))) pss_nil)
  (pss_cons (ps_if (pt_cmpR op_gt (pe_ix (r := rIxL K) ix_list (pv 0) pe_int (fun _ _ => rfl)) pe_int (nomark _)) (pss_cons (ps_set (i := 3) nd rfl (.inl rfl) (pe_op op_modN (pe_ix (r := rIxL K) ix_list (pv 0) pe_int (fun _ _ => rfl)) (pv 1)))
  (pss_cons (ps_asg (pe_op Hs.op_fdivG (pe_ix (r := rIxL K) ix_list (pv 0) pe_int (fun _ _ => rfl)) (pv 1)) (pg_sub (pv 0) pe_int set_list))
  (pss_one (ps_ret (pv 3))))) pss_nil)
  (pss_cons (ps_asg (pe_op op_add (pe_ix (r := rIxL K) ix_list (pv 0) pe_int (fun _ _ => rfl)) pe_int) (pg_sub (pv 0) pe_int set_list))
  (pss_cons (ps_set (i := 4) nd rfl (.inl rfl) (pe_op op_add (pe_op op_mulW (pe_ix (r := rIxL K) ix_list (pv 0) pe_int (fun _ _ => rfl)) (pe_ix (r := rIxL K) ix_list (pv 0) pe_int (fun _ _ => rfl))) (pe_op op_mulW (pe_op op_mulW pe_int (pe_ix (r := rIxL K) ix_list (pv 0) pe_int (fun _ _ => rfl))) (pe_op op_add (pe_op op_modN (pe_ix (r := rIxL K) ix_list (pv 0) pe_int (fun _ _ => rfl)) pe_int) pe_int))))
  (pss_cons (ps_asg (pe_op op_modN (pe_op op_add (pe_op op_add (pv 4) (pe_op op_mulW (pe_op op_mulW (pe_ix (r := rIxL K) ix_list (pv 0) pe_int (fun _ _ => rfl)) (pe_ix (r := rIxL K) ix_list (pv 0) pe_int (fun _ _ => rfl))) (pe_ix (r := rIxL K) ix_list (pv 0) pe_int (fun _ _ => rfl)))) pe_int) pe_int) (pg_sub (pv 0) pe_int set_list))
  (pss_one (ps_ret (pe_op op_modN (pe_op op_add (pe_op Hs.op_fdivG (pe_ix (r := rIxL K) ix_list (pv 0) pe_int (fun _ _ => rfl)) pe_int) (pe_op op_mulW (pe_op op_modN (pe_ix (r := rIxL K) ix_list (pv 0) pe_int (fun _ _ => rfl)) pe_int) pe_int)) (pv 1))))))))), ?_⟩)
  · obtain ⟨b, l, ns, n, many, rfl, _⟩ := h
    rfl
  · obtain ⟨b, l, ns, n, many, rfl, B, hn, hm, hm2, k⟩ := h
    obtain ⟨⟨i, z, s0, c, hb, hi, h0, h1, hc⟩, hl, ne⟩ := B
    refine q_cut (M := fun σ' H' => ∃ v2, σ' = [some (.ref b), some (.int many), v2, none, none] ∧ H' l = some (.lst (ns.map V.int)) ∧ But H H' b ∧ ∃ (i : Nat) (z s : Int), H' b = some (.lst [.ref l, .int i, .int z, .int s, .int c]) ∧ i ≤ ns.length ∧ 0 ≤ s ∧ s < 2147483647) ?_ ?_
    · refine s_when (et_and (et_test (ev_op (ev_ix rfl hb rfl) ev_c (rv_eq rfl))) fun _ => et_test (ev_op (ev_ix rfl hb rfl) (ev_len (ev_ix rfl hb rfl) (sq_of hl)) rv_I0)) (fun ht H1 e1 => ?_) (fun ht H1 e1 => ?_)
      · have hlt : (i : Int) < ((ns.map V.int).length : Int) := by
          rw [Bool.and_eq_true] at ht
          exact of_decide_eq_true ht.2
        rw [List.length_map] at hlt
        have hit : i < ns.length := by omega
        have hg : (ns.map V.int)[i]? = some (V.int ns[i]) := by
          rw [List.getElem?_map, List.getElem?_eq_getElem hit] <;> rfl
        refine q_asg (ev_op (ev_ix rfl (e1 _ _ hb) rfl) (ev_ix rfl (e1 _ _ hb) rfl) (rv_ixL (sq_of (e1 _ _ hl)) (atI_nat hg))) fun H2 e2 => ?_
        have e12 := e1.trans e2
        refine q_setL (j := 1) (e12 _ _ hb) (ev_op (ev_ix rfl (e12 _ _ hb) rfl) ev_c rv_I0) (ev_var rfl) ev_c (by simp) fun H3 e3 => ?_
        have hb3 : (upd H3 b (.lst [.ref l, .int ((i : Int) + 1), .int z, .int s0, .int c])) b = some (.lst [.ref l, .int ((i + 1 : Nat) : Int), .int z, .int s0, .int c]) := upd_same
        have hl3 : (upd H3 b (.lst [.ref l, .int ((i : Int) + 1), .int z, .int s0, .int c])) l = some (.lst (ns.map V.int)) := by
          rw [upd_ne (Ne.symm ne)]
          exact (e12.trans e3) _ _ hl
        have bt3 : But H (upd H3 b (.lst [.ref l, .int ((i : Int) + 1), .int z, .int s0, .int c])) b := But.upd (.of (e12.trans e3))
        refine s_if (et_test (ev_op (ev_var rfl) (ev_op ev_c ev_c (rv_I ⟨by decide, by decide, by decide⟩)) rv_I0)) (fun ht2 H4 e4 => ?_) (fun ht2 H4 e4 => ?_)
        · refine s_setL (j := 2) (e4 _ _ hb3) (ev_var rfl) (ev_var rfl) ev_c (by simp) fun H5 e5 => ?_
          refine ⟨_, rfl, ?_, But.upd ((bt3.ex e4).ex e5), i + 1, ns[i], s0, upd_same, hit, h0, h1⟩
          rw [upd_ne (Ne.symm ne)]
          exact (e4.trans e5) _ _ hl3
        · refine s_setL (j := 3) (e4 _ _ hb3) (ev_op (ev_op (ev_op (ev_op (ev_ix rfl (e4 _ _ hb3) rfl) ev_c (rv_I (mul64 (by omega) (by decide)))) (ev_op (ev_var rfl) ev_c (rv_I (show (2147483563 : Int) ≠ 0 by decide))) rv_I0) ev_c rv_I0) ev_c (rv_I (show (2147483629 : Int) ≠ 0 by decide))) (ev_var rfl) ev_c (by simp) fun H5 e5 => ?_
          have hp := modP (i := s0 * 40503 + (ns[i]).fmod 2147483563 + 1) (j := 2147483629) (by decide)
          refine ⟨_, rfl, ?_, But.upd ((bt3.ex e4).ex e5), i + 1, z, _, upd_same, hit, hp.1, by omega⟩
          rw [upd_ne (Ne.symm ne)]
          exact (e4.trans e5) _ _ hl3
      · exact ⟨none, rfl, e1 _ _ hl, .of e1, i, z, s0, e1 _ _ hb, hi, h0, h1⟩
    · rintro σ' H1 ⟨v2, rfl, hl1, bt1, i, z, s0, hb1, hi, h0, h1⟩
      refine q_when (et_test (ev_op (ev_ix rfl hb1 rfl) ev_c rv_I0)) (fun ht H2 e2 => ?_) (fun ht H2 e2 => ?_)
      · refine q_asg (ev_op (ev_ix rfl (e2 _ _ hb1) rfl) (ev_var rfl) (rv_I (show many ≠ 0 by omega))) fun H3 e3 => ?_
        have e23 := e2.trans e3
        refine q_setL (j := 2) (e23 _ _ hb1) (ev_op (ev_ix rfl (e23 _ _ hb1) rfl) (ev_var rfl) (rv_I (divG (b := 200) (by omega) (by omega) (by decide) (by decide)))) (ev_var rfl) ev_c (by simp) fun H4 e4 => ?_
        have hp := modP (i := z) (j := many) hm
        refine s_ret (ev_var rfl) fun H5 e5 => k _ _ hp.1 hp.2 ?_ ((But.upd (bt1.ex (e23.trans e4))).ex e5)
        refine BagAt.ext (n := n + 1) ⟨⟨i, _, s0, c, upd_same, hi, h0, h1, by omega⟩, ?_, ne⟩ e5 (Nat.le_refl _)
        rw [upd_ne (Ne.symm ne)]
        exact (e23.trans e4) _ _ hl1
      · refine q_setL (j := 4) (e2 _ _ hb1) (ev_op (ev_ix rfl (e2 _ _ hb1) rfl) ev_c rv_I0) (ev_var rfl) ev_c (by simp) fun H3 e3 => ?_
        have hb3 : (upd H3 b (.lst [.ref l, .int i, .int z, .int s0, .int ((c : Int) + 1)])) b = some (.lst [.ref l, .int i, .int z, .int s0, .int ((c : Int) + 1)]) := upd_same
        have hl3 : (upd H3 b (.lst [.ref l, .int i, .int z, .int s0, .int ((c : Int) + 1)])) l = some (.lst (ns.map V.int)) := by
          rw [upd_ne (Ne.symm ne)]
          exact (e2.trans e3) _ _ hl1
        have bt3 : But H (upd H3 b (.lst [.ref l, .int i, .int z, .int s0, .int ((c : Int) + 1)])) b := But.upd (bt1.ex (e2.trans e3))
        have hp1 := modP (i := s0) (j := 8191) (by decide)
        refine q_asg (ev_op (ev_op (ev_ix rfl hb3 rfl) (ev_ix rfl hb3 rfl) (rv_I (mul64 (by omega) (by omega)))) (ev_op (ev_op ev_c (ev_ix rfl hb3 rfl) (rv_I (mul64 (by decide) (by omega)))) (ev_op (ev_op (ev_ix rfl hb3 rfl) ev_c (rv_I (show (8191 : Int) ≠ 0 by decide))) ev_c rv_I0) (rv_I (mul64 (by omega) (by omega)))) rv_I0) fun H4 e4 => ?_
        have hcc : ((c : Int) + 1) * ((c : Int) + 1) ≤ 1000000 * 1000000 := Int.mul_le_mul (by omega) (by omega) (by omega) (by decide)
        have hcd : 0 ≤ ((c : Int) + 1) * ((c : Int) + 1) := Int.mul_nonneg (by omega) (by omega)
        refine q_setL (j := 3) (e4 _ _ hb3) (ev_op (ev_op (ev_op (ev_var rfl) (ev_op (ev_op (ev_ix rfl (e4 _ _ hb3) rfl) (ev_ix rfl (e4 _ _ hb3) rfl) (rv_I (mul64 (by omega) (by omega)))) (ev_ix rfl (e4 _ _ hb3) rfl) (rv_I (mul64 (by omega) (by omega)))) rv_I0) ev_c rv_I0) ev_c (rv_I (show (2147483629 : Int) ≠ 0 by decide))) (ev_var rfl) ev_c (by simp) fun H5 e5 => ?_
        generalize hs' : Int.fmod _ 2147483629 = s1
        have hs1 : 0 ≤ s1 ∧ s1 < 2147483629 := by
          rw [← hs']
          exact modP (by decide)
        have hp2 := modP (i := s1) (j := 7919) (by decide)
        refine s_ret (ev_op (ev_op (ev_op (ev_ix rfl upd_same rfl) ev_c (rv_I (divG (b := 64) (by decide) (by decide) (by decide) (by decide)))) (ev_op (ev_op (ev_ix rfl upd_same rfl) ev_c (rv_I (show (7919 : Int) ≠ 0 by decide))) ev_c (rv_I (mul64 (by omega) (by decide)))) rv_I0) (ev_var rfl) (rv_I (show many ≠ 0 by omega))) fun H6 e6 => ?_
        have hp := modP (i := s1.fdiv 71 + s1.fmod 7919 * 37) (j := many) hm
        refine k _ _ hp.1 hp.2 ?_ ((But.upd (bt3.ex (e4.trans e5))).ex e6)
        refine BagAt.ext (n := n + 1) ⟨⟨i, z, s1, c + 1, upd_same, hi, hs1.1, by omega, by omega⟩, ?_, ne⟩ e6 (Nat.le_refl _)
        rw [upd_ne (Ne.symm ne)]
        exact (e4.trans e5) _ _ hl3
end
end Hs
namespace Hs
open PySem PySem.Spec PyProof.Rows L2 Evl
theorem cut63 {xs : List V} (h : xs.length ≤ 63) : cutV xs none (some 63) = xs := by
  have e1 : HT.sIx xs.length 0 none = 0 := rfl
  have e2 : HT.sIx xs.length xs.length (some 63) = xs.length := by
    show min (63 : Int).toNat xs.length = xs.length
    omega
  unfold cutV
  rw [e1, e2, List.drop_zero, Nat.sub_zero, List.take_length]
section
variable {P : Program} {w : World} {K : PySem.W.Frag} {mg : Str → Option Value} {base : Heap} {f : Addr} {fd : FuncData}
abbrev sBag : Stmt := top 105
theorem scBag : FnScope ["_law_script", "_law_salt", "_law_cell"] ["_law_script"] (defScope sBag) := ⟨rfl, rfl, rfl, by decide +kernel, rfl, by decide +kernel, by decide +kernel⟩
theorem ok_bag (F : FnP K "_law_bag" sBag f fd) (g_len : mg "len" = none) (g_list : mg "list" = none) : FnOk P w K mg base CX0 1 f fd ["_law_script"] (spBag K) := by
  have nd := scBag.nd
  refine F.ok scBag (fun vs H Q E h => ?_) (fun cdv A outer s H vs Q E hr h => ⟨_, PSs.nox (pss_cons (ps_set (i := 1) nd rfl (.inl rfl) (pe_op op_add pe_int (pe_callB (r := Evl.rLenS K) call_len_seq (by rfl) g_len PySem.boot_len (pa_cons (pe_slice sl_list (pv 0) po_none (po_some pe_int)) pa_nil))))
  (pss_cons (ps_for PassesOwn.never rfl (pi_list (pe_slice sl_list (pv 0) po_none (po_some pe_int))) (pg_name (i := 2) nd rfl (.inl rfl)) (pss_one (ps_set (i := 1) nd rfl (.inl rfl) (pe_op op_modN (pe_op op_add (pe_op op_add (pe_op op_mulW (pv 1) pe_int) (pe_op op_modN (pv 2) pe_int)) pe_int) pe_int))))
  (pss_one (ps_ret (pe_lst (pa_cons (pe_callTy (r := Evl.rListS K) call_list_of (by rfl) g_list (by decide +kernel) (pa_cons (pe_slice sl_list (pv 0) po_none (po_some pe_int)) pa_nil)) (pa_cons pe_int (pa_cons pe_int (pa_cons (pv 1) (pa_cons pe_int pa_nil)))))))))), ?_⟩)
  · obtain ⟨a, ns, rfl, _⟩ := h
    rfl
  · obtain ⟨a, ns, rfl, hS, hl, k⟩ := h
    have hl2 : (ns.map V.int).length ≤ 63 := by rw [List.length_map]; exact hl
    have sl : ∀ {σ : L2.St} {H' : Hp}, σ[0]? = some (some (.ref a)) → Ex H H' → EvL (tSl (rSlL K) (tVar 0) tNoPart (tPart (tC (.int 63)))) σ H' (ns.map V.int) := fun {σ H'} h0 e => by
      have q := el_sl (K := K) (σ := σ) (H := H') (ev_var h0) eo_none (eo_some (i := 63) ev_c) (ex_l e hS)
      rw [cut63 hl2] at q
      exact q
    refine q_asg (ev_op ev_c (ev_lenN (sl rfl (Ex.refl H))) rv_I0) fun H1 e1 => ?_
    refine q_forNLn (sl rfl e1) (fun p i σ' H' => Ex H H' ∧ H' p = some (.lst (ns.map V.int)) ∧ ∃ (s0 : Int) (v : Option V), σ' = [some (.ref a), some (.int s0), v] ∧ 0 ≤ s0 ∧ s0 < 2147483647) ?_ ?_ ?_ ?_
    · intro p H2 hp e2 h2
      exact ⟨e1.trans e2, h2, _, none, rfl, by omega, by omega⟩
    · rintro p i σ' H' hi ⟨_, h, _⟩
      exact sq_of h
    · rintro p i x σ' H' hx ⟨e, h, s0, v, rfl, h0, h1⟩
      obtain ⟨z, rfl⟩ : ∃ z, x = V.int z := by
        rw [List.getElem?_map] at hx
        cases ez : ns[i]? with
        | none =>
          rw [ez] at hx
          cases hx
        | some z =>
          rw [ez] at hx
          exact ⟨z, (Option.some.inj hx).symm⟩
      refine s_asg (ev_op (ev_op (ev_op (ev_op (ev_var rfl) ev_c (rv_I (mul64 (by omega) (by decide)))) (ev_op (ev_var rfl) ev_c (rv_I (show (2147483629 : Int) ≠ 0 by decide))) rv_I0) ev_c rv_I0) ev_c (rv_I (show (2147483647 : Int) ≠ 0 by decide))) fun H2 e2 => ?_
      have hp := modP (i := s0 * 48271 + z.fmod 2147483629 + 7) (j := 2147483647) (by decide)
      exact ⟨e.trans e2, e2 _ _ h, _, _, rfl, hp.1, hp.2⟩
    · rintro p σ' H' ⟨e, h, s0, v, rfl, h0, h1⟩
      refine sl (σ := [some (.ref a), some (.int s0), v]) rfl e H' (Ex.refl _) _ fun q H2 hq e2 h2 => ⟨q, _, rfl, .inl (sq_of h2), fun l hl3 => ⟨_, rfl, sz_of (by simp), fun b hb3 => ?_⟩⟩
      have hne : l ≠ b := fun z => by
        rw [← z, upd_same] at hb3
        cases hb3
      have e3 : Ex H (upd H2 l (.lst (ns.map V.int))) := (e.trans e2).trans (Ex.new hl3)
      refine k b l _ (fresh_back e3 hb3) (fresh_back (e.trans e2) hl3) ⟨⟨0, 0, s0, 0, upd_same, Nat.zero_le _, h0, h1, Nat.le_refl _⟩, ?_, Ne.symm hne⟩ (e3.trans (Ex.new hb3))
      rw [upd_ne hne, upd_same]
end
end Hs
namespace Hs
open PySem PySem.Spec PyProof.Rows L2 Evl
/-! ### two data alike: the law's own comparison -/
def Sm (K : PySem.W.Frag) (H : Hp) : Nat → V → V → Prop
  | 0, _, _ => False
  | d + 1, u, v => (u = v ∧ flatV u = true) ∨ ∃ (a b : Addr) (xs ys : List V), u = .ref a ∧ v = .ref b ∧ ((SqL K H a xs ∧ SqL K H b ys) ∨ (SqT K H a xs ∧ SqT K H b ys)) ∧ xs.length = ys.length ∧ xs.length ≤ 1000 ∧
      ∀ (i : Nat) (x y : V), xs[i]? = some x → ys[i]? = some y → Sm K H d x y
theorem Sm.ext {K : PySem.W.Frag} {H H' : Hp} (e : Ex H H') : ∀ {d : Nat} {u v : V}, Sm K H d u v → Sm K H' d u v
  | 0, _, _, h => h.elim
  | d + 1, u, v, h => by
    rcases h with h | ⟨a, b, xs, ys, h1, h2, h3, h4, h5, h6⟩
    · exact .inl h
    · refine .inr ⟨a, b, xs, ys, h1, h2, ?_, h4, h5, fun i x y hx hy => Sm.ext e (h6 i x y hx hy)⟩
      rcases h3 with ⟨p, q⟩ | ⟨p, q⟩
      · exact .inl ⟨ex_l e p, ex_l e q⟩
      · exact .inr ⟨ex_t e p, ex_t e q⟩
def spSame (K : PySem.W.Frag) (d : Nat) : Sp := fun vs H Q _ => ∃ u v : V, vs = [u, v] ∧ Sm K H d u v ∧ RetV (.bl true) H Q
/-- of the built-in type t, whatever is new -/
def Ty (K : PySem.W.Frag) (H : Hp) (x : V) (t : String) : Prop := ∀ H1, Ex H H1 → TyX K H1 x (.type t)
theorem ty_l {K : PySem.W.Frag} {H : Hp} {a : Addr} {xs : List V} (h : SqL K H a xs) : Ty K H (.ref a) "list" := fun H1 e => by
  rcases ex_l e h with (h | ⟨o, h⟩) | ⟨o, its, n, h1, h2, _⟩
  · exact .base (.lst h)
  · exact .base (.frz h)
  · exact .kList h1 h2
theorem ty_t {K : PySem.W.Frag} {H : Hp} {a : Addr} {xs : List V} (h : SqT K H a xs) : Ty K H (.ref a) "tuple" := fun H1 e => by
  rcases ex_t e h with (h | ⟨o, h⟩) | ⟨o, its, n, h1, h2, _⟩
  · exact .base (.tup h)
  · exact .fTuple h
  · exact .kTuple h1 h2
theorem ty_bl {K : PySem.W.Frag} {H : Hp} {b : Bool} : Ty K H (.bl b) "bool" := fun _ _ => .base (.bl b)
theorem ty_int {K : PySem.W.Frag} {H : Hp} {b : Int} : Ty K H (.int b) "int" := fun _ _ => .base (.int b)
theorem ty_str {K : PySem.W.Frag} {H : Hp} {b : Str} : Ty K H (.str b) "str" := fun _ _ => .base (.str b)
theorem ev_isi {K : PySem.W.Frag} {σ : L2.St} {H : Hp} {te : TE} {x : V} {t c : String} {b : Bool} (h : Ev te σ H x) (ht : Ty K H x t) (hk : kitB t c = some b) : Ev (tCB (rIsi K) (tCons te (tCons (tC (.ty c)) tNil))) σ H (.bl b) := fun H1 e Q q =>
  h H1 e _ fun H2 e2 => ⟨x, .ty c, .type t, .type c, b, rfl, .ty c, ht H2 (e.trans e2), kit_ty hk, q H2 e2⟩
theorem ev_isi2 {K : PySem.W.Frag} {σ : L2.St} {H : Hp} {te : TE} {x : V} {t c c' : String} {b b' : Bool} (h : Ev te σ H x) (ht : Ty K H x t) (hk : kitB t c = some b) (hk' : kitB t c' = some b') :
    Ev (tCB (rIsiT K) (tCons te (tCons (tTup (tCons (tC (.ty c)) (tCons (tC (.ty c')) tNil))) tNil))) σ H (.bl (b || b')) := fun H1 e Q q =>
  h H1 e _ fun H2 e2 => ⟨sz_of (by simp), fun p hp => ⟨x, p, [.ty c, .ty c'], .type t, [.type c, .type c'], b || b', rfl, upd_same, .cons (.ty c) (.cons (.ty c') .nil), ht _ ((e.trans e2).trans (Ex.new hp)), by
    refine kitAny_cons (kit_ty hk) (fun hb => ?_) (fun hb => by rw [hb] <;> rfl)
    rw [hb, Bool.false_or]
    exact kitAny_cons (kit_ty hk') (fun hb' => by rw [hb']; exact kitAny_nil) (fun hb' => hb'), q _ (e2.trans (Ex.new hp))⟩⟩
theorem rv_ixQ {K : PySem.W.Frag} {H : Hp} {p : Addr} {xs : List V} {i : Int} {v : V} (h : SqL K H p xs ∨ SqT K H p xs) (ha : atI xs i = some v) : RV (rIx K) (.ref p) (.int i) H v := fun H1 e Q q => by
  rcases h with h | h
  · exact .inl (rv_ixL h ha H1 e Q q)
  · exact .inr (.inl (rv_ixT h ha H1 e Q q))
theorem ev_lenQ {K : PySem.W.Frag} {σ : L2.St} {H : Hp} {ta : TE} {p : Addr} {xs : List V} (ha : Ev ta σ H (.ref p)) (h : SqL K H p xs ∨ SqT K H p xs) : Ev (tCB (rLenS K) (tCons ta tNil)) σ H (.int (xs.length : Int)) := fun H1 e Q q =>
  ha H1 e _ fun H2 e2 => ⟨p, xs, rfl, h.imp (fun h => ex_l (e.trans e2) h) (fun h => ex_t (e.trans e2) h), q H2 e2⟩
theorem given_true (n : Nat) : given n (fun _ => true) (fun _ => V.bl true) = (List.replicate n true).map V.bl := by
  induction n with
  | zero => rfl
  | succ n ih =>
    rw [given_yes rfl, ih, List.replicate_succ', List.map_append] <;> rfl
theorem ev_allT {K : PySem.W.Frag} {σ : L2.St} {H : Hp} {te : TE} {n : Nat} (h : EvL te σ H (given n (fun _ => true) (fun _ => V.bl true))) : Ev (tCB (rAll K) (tCons te tNil)) σ H (.bl true) := fun H1 e Q q =>
  h H1 e _ fun p H2 _ e2 h2 => ⟨p, List.replicate n true, rfl, sq_of (by rw [h2, given_true]), by
    have e3 : (List.replicate n true).all id = true := by simp
    rw [e3]
    exact q H2 e2⟩
theorem kb_bool_bool : kitB "bool" "bool" = some true := by decide +kernel
theorem kb_int_bool : kitB "int" "bool" = some false := by decide +kernel
theorem kb_int_int : kitB "int" "int" = some true := by decide +kernel
theorem kb_int_str : kitB "int" "str" = some false := by decide +kernel
theorem kb_str_bool : kitB "str" "bool" = some false := by decide +kernel
theorem kb_str_int : kitB "str" "int" = some false := by decide +kernel
theorem kb_str_str : kitB "str" "str" = some true := by decide +kernel
theorem kb_list_bool : kitB "list" "bool" = some false := by decide +kernel
theorem kb_list_int : kitB "list" "int" = some false := by decide +kernel
theorem kb_list_str : kitB "list" "str" = some false := by decide +kernel
theorem kb_list_list : kitB "list" "list" = some true := by decide +kernel
theorem kb_list_tuple : kitB "list" "tuple" = some false := by decide +kernel
theorem kb_tuple_bool : kitB "tuple" "bool" = some false := by decide +kernel
theorem kb_tuple_int : kitB "tuple" "int" = some false := by decide +kernel
theorem kb_tuple_str : kitB "tuple" "str" = some false := by decide +kernel
theorem kb_tuple_list : kitB "tuple" "list" = some false := by decide +kernel
theorem kb_tuple_tuple : kitB "tuple" "tuple" = some true := by decide +kernel
section
variable {P : Program} {w : World} {K : PySem.W.Frag} {mg : Str → Option Value} {base : Heap} {f : Addr} {fd : FuncData}
abbrev sSame : Stmt := top 107
theorem scSame : FnScope ["_law_got", "_law_due", "_law_k"] ["_law_got", "_law_due"] (defScope sSame) := ⟨rfl, rfl, rfl, by decide +kernel, rfl, by decide +kernel, by decide +kernel⟩
theorem ok_same (F : FnP K "_law_same" sSame f fd) (m : mg "_law_same" = some (.ref f)) (g_len : mg "len" = none) (g_isinstance : mg "isinstance" = none) (g_bool : mg "bool" = none) (g_int : mg "int" = none) (g_str : mg "str" = none) (g_list : mg "list" = none) (g_tuple : mg "tuple" = none)
    (g_all : mg "all" = none) (g_range : mg "range" = none) : ∀ d, FnOk P w K mg base CX0 d f fd ["_law_got", "_law_due"] (spSame K d)
  | 0 => ⟨fun _ _ _ _ h => by
      obtain ⟨u, v, _, h, _⟩ := h
      exact h.elim, fun _ _ _ _ _ _ _ _ _ _ _ _ _ h => by
      obtain ⟨u, v, _, h, _⟩ := h
      exact h.elim⟩
  | d + 1 => by
    have O__law_same : Own P w K mg base d "_law_same" ["_law_got", "_law_due"] (spSame K d) := own_of F m (ok_same F m g_len g_isinstance g_bool g_int g_str g_list g_tuple g_all g_range d) fun _ _ _ _ _ _ us hl => match us, hl with | [_, _], _ => rfl
    have nd := scSame.nd
    refine F.ok scSame (fun vs H Q E h => ?_) (fun cdv A outer s H vs Q E hr h => ⟨_, PSs.nox (pss_cons (ps_if (PW.pt (pw_or (pt_cmpR op_isN (pv 1) pe_non (nomark _)) (pw_or1 (pt_cmpR op_isN (pv 0) pe_non (nomark _))))) (pss_one (ps_ret (pe_and (pe_cmpR op_isN (pv 1) pe_non (nomark _)) (pe_one (pe_cmpR op_isN (pv 0) pe_non (nomark _)))))) pss_nil)
  (pss_cons (ps_if (PW.pt (pw_or (pt_val (pe_callB (r := rIsi K) call_isi (by rfl) g_isinstance (by decide +kernel) (pa_cons (pv 1) (pa_cons (pe_bltn (v := .ty "bool") (by rfl) g_bool (by decide +kernel) rfl) pa_nil)))) (pw_or1 (pt_val (pe_callB (r := rIsi K) call_isi (by rfl) g_isinstance (by decide +kernel) (pa_cons (pv 0) (pa_cons (pe_bltn (v := .ty "bool") (by rfl) g_bool (by decide +kernel) rfl) pa_nil))))))) (pss_one (ps_ret (pe_and (pe_callB (r := rIsi K) call_isi (by rfl) g_isinstance (by decide +kernel) (pa_cons (pv 1) (pa_cons (pe_bltn (v := .ty "bool") (by rfl) g_bool (by decide +kernel) rfl) pa_nil))) (pe_and (pe_callB (r := rIsi K) call_isi (by rfl) g_isinstance (by decide +kernel) (pa_cons (pv 0) (pa_cons (pe_bltn (v := .ty "bool") (by rfl) g_bool (by decide +kernel) rfl) pa_nil))) (pe_one (pe_cmpR op_eq (pv 0) (pv 1) (nomark _))))))) pss_nil)
  (pss_cons (ps_if (pt_val (pe_callB (r := rIsiT K) call_isiT (by rfl) g_isinstance (by decide +kernel) (pa_cons (pv 1) (pa_cons (pe_tup (pa_cons (pe_bltn (v := .ty "int") (by rfl) g_int (by decide +kernel) rfl) (pa_cons (pe_bltn (v := .ty "str") (by rfl) g_str (by decide +kernel) rfl) pa_nil))) pa_nil)))) (pss_one (ps_ret (pe_and (pe_cmpR op_eq (pe_callB (r := rIsi K) call_isi (by rfl) g_isinstance (by decide +kernel) (pa_cons (pv 0) (pa_cons (pe_bltn (v := .ty "int") (by rfl) g_int (by decide +kernel) rfl) pa_nil))) (pe_callB (r := rIsi K) call_isi (by rfl) g_isinstance (by decide +kernel) (pa_cons (pv 1) (pa_cons (pe_bltn (v := .ty "int") (by rfl) g_int (by decide +kernel) rfl) pa_nil))) (nomark _)) (pe_one (pe_cmpR op_eq (pv 0) (pv 1) (nomark _)))))) pss_nil)
  (pss_cons (ps_if (PW.pt (pw_or (pt_cmpR op_ne (pe_callB (r := rIsi K) call_isi (by rfl) g_isinstance (by decide +kernel) (pa_cons (pv 1) (pa_cons (pe_bltn (v := .ty "list") (by rfl) g_list (by decide +kernel) rfl) pa_nil))) (pe_callB (r := rIsi K) call_isi (by rfl) g_isinstance (by decide +kernel) (pa_cons (pv 0) (pa_cons (pe_bltn (v := .ty "list") (by rfl) g_list (by decide +kernel) rfl) pa_nil))) (nomark _)) (pw_or1 (pt_cmpR op_ne (pe_callB (r := rIsi K) call_isi (by rfl) g_isinstance (by decide +kernel) (pa_cons (pv 1) (pa_cons (pe_bltn (v := .ty "tuple") (by rfl) g_tuple (by decide +kernel) rfl) pa_nil))) (pe_callB (r := rIsi K) call_isi (by rfl) g_isinstance (by decide +kernel) (pa_cons (pv 0) (pa_cons (pe_bltn (v := .ty "tuple") (by rfl) g_tuple (by decide +kernel) rfl) pa_nil))) (nomark _))))) (pss_one (ps_ret pe_bl)) pss_nil)
  (pss_one (ps_ret (pe_and (pe_cmpR op_eq (pe_callB (r := Evl.rLenS K) call_len_seq (by rfl) g_len PySem.boot_len (pa_cons (pv 0) pa_nil)) (pe_callB (r := Evl.rLenS K) call_len_seq (by rfl) g_len PySem.boot_len (pa_cons (pv 1) pa_nil)) (nomark _)) (pe_one (pe_callB (r := rAll K) (cr_all rfl) (by rfl) g_all (by decide +kernel) (pa_cons (pe_lc (own := [("_law_k", 2)]) rfl nd (pi_range1 (by rfl) g_range (pa_cons (pe_callB (r := Evl.rLenS K) call_len_seq (by rfl) g_len PySem.boot_len (pa_cons (pv 1) pa_nil)) pa_nil)) (blkOk_by (N := ["_law_got", "_law_due", "_law_k"]) (sc := defScope (Hs.top 107)) (by decide +kernel)) (fun _ _ _ _ _ => (pg_name (i := 2) nd rfl (Or.inl rfl))) (fun _ _ _ _ _ => pts_nil) (fun _ _ _ _ _ => (Hs.pe_own O__law_same hr (by first | decide | omega) (by rfl) (pa_cons (pe_ix (r := rIx K) ix_seq (pv 0) (pv 2) (fun _ _ => rfl)) (pa_cons (pe_ix (r := rIx K) ix_seq (pv 1) (pv 2) (fun _ _ => rfl)) pa_nil))))) pa_nil)))))))))), ?_⟩)
    · obtain ⟨u, v, rfl, _⟩ := h
      rfl
    · obtain ⟨u, v, rfl, h, k⟩ := h
      rcases h with ⟨rfl, hf⟩ | ⟨a, b, xs, ys, rfl, rfl, hq, hlen, hz, hi⟩
      · cases u with
        | non =>
          refine q_when (et_or (et_test (ev_op (ev_var rfl) ev_c (rv_val fun H1 _ Q q => ⟨rfl, q⟩))) (fun _ => et_test (ev_op (ev_var rfl) ev_c (rv_val fun H1 _ Q q => ⟨rfl, q⟩)))) (fun ht H1 e1 => ?_) (fun ht => by simp at ht)
          exact s_ret (ev_is (ev_andV (ev_op (ev_var rfl) ev_c (rv_val fun H1 _ Q q => ⟨rfl, q⟩)) (fun _ => ev_op (ev_var rfl) ev_c (rv_val fun H1 _ Q q => ⟨rfl, q⟩))) (by simp)) fun H2 e2 => k _ (e1.trans e2)
        | bl y =>
          refine q_when (b := false) (et_is (et_or (et_test (ev_op (ev_var rfl) ev_c (rv_val fun H1 _ Q q => ⟨rfl, q⟩))) (fun _ => et_test (ev_op (ev_var rfl) ev_c (rv_val fun H1 _ Q q => ⟨rfl, q⟩)))) (by simp)) (fun ht => Bool.noConfusion ht) (fun _ H1 e1 => ?_)
          refine q_when (b := true) (et_is (et_or (et_B (ev_isi (ev_var rfl) ty_bl kb_bool_bool)) (fun _ => et_B (ev_isi (ev_var rfl) ty_bl kb_bool_bool))) (by simp)) (fun _ H2 e2 => ?_) (fun ht => Bool.noConfusion ht)
          exact s_ret (ev_is (ev_andV (ev_isi (ev_var rfl) ty_bl kb_bool_bool) (fun _ => ev_andV (ev_isi (ev_var rfl) ty_bl kb_bool_bool) (fun _ => ev_op (ev_var rfl) (ev_var rfl) (rv_eq rfl)))) (by simp)) fun H3 e3 => k _ ((e1.trans e2).trans e3)
        | int i =>
          refine q_when (b := false) (et_is (et_or (et_test (ev_op (ev_var rfl) ev_c (rv_val fun H1 _ Q q => ⟨rfl, q⟩))) (fun _ => et_test (ev_op (ev_var rfl) ev_c (rv_val fun H1 _ Q q => ⟨rfl, q⟩)))) (by simp)) (fun ht => Bool.noConfusion ht) (fun _ H1 e1 => ?_)
          refine q_when (b := false) (et_is (et_or (et_B (ev_isi (ev_var rfl) ty_int kb_int_bool)) (fun _ => et_B (ev_isi (ev_var rfl) ty_int kb_int_bool))) (by simp)) (fun ht => Bool.noConfusion ht) (fun _ H2 e2 => ?_)
          refine q_when (b := true) (et_is (et_B (ev_isi2 (ev_var rfl) ty_int kb_int_int kb_int_str)) (by simp)) (fun _ H3 e3 => ?_) (fun ht => Bool.noConfusion ht)
          exact s_ret (ev_is (ev_andV (ev_op (ev_isi (ev_var rfl) ty_int kb_int_int) (ev_isi (ev_var rfl) ty_int kb_int_int) (rv_eq rfl)) (fun _ => ev_op (ev_var rfl) (ev_var rfl) (rv_eq rfl))) (by simp)) fun H4 e4 => k _ (((e1.trans e2).trans e3).trans e4)
        | str x =>
          refine q_when (b := false) (et_is (et_or (et_test (ev_op (ev_var rfl) ev_c (rv_val fun H1 _ Q q => ⟨rfl, q⟩))) (fun _ => et_test (ev_op (ev_var rfl) ev_c (rv_val fun H1 _ Q q => ⟨rfl, q⟩)))) (by simp)) (fun ht => Bool.noConfusion ht) (fun _ H1 e1 => ?_)
          refine q_when (b := false) (et_is (et_or (et_B (ev_isi (ev_var rfl) ty_str kb_str_bool)) (fun _ => et_B (ev_isi (ev_var rfl) ty_str kb_str_bool))) (by simp)) (fun ht => Bool.noConfusion ht) (fun _ H2 e2 => ?_)
          refine q_when (b := true) (et_is (et_B (ev_isi2 (ev_var rfl) ty_str kb_str_int kb_str_str)) (by simp)) (fun _ H3 e3 => ?_) (fun ht => Bool.noConfusion ht)
          exact s_ret (ev_is (ev_andV (ev_op (ev_isi (ev_var rfl) ty_str kb_str_int) (ev_isi (ev_var rfl) ty_str kb_str_int) (rv_eq rfl)) (fun _ => ev_op (ev_var rfl) (ev_var rfl) (rv_eq rfl))) (by simp)) fun H4 e4 => k _ (((e1.trans e2).trans e3).trans e4)
        | _ => cases hf
      · have ta : ∀ {H' : Hp}, Ex H H' → (Ty K H' (.ref a) "list" ∧ Ty K H' (.ref b) "list") ∨ (Ty K H' (.ref a) "tuple" ∧ Ty K H' (.ref b) "tuple") := fun {H'} e => by
          rcases hq with ⟨p, q⟩ | ⟨p, q⟩
          · exact .inl ⟨ty_l (ex_l e p), ty_l (ex_l e q)⟩
          · exact .inr ⟨ty_t (ex_t e p), ty_t (ex_t e q)⟩
        have qa : ∀ {H' : Hp}, Ex H H' → SqL K H' a xs ∨ SqT K H' a xs := fun {H'} e => hq.imp (fun h => ex_l e h.1) (fun h => ex_t e h.1)
        have qb : ∀ {H' : Hp}, Ex H H' → SqL K H' b ys ∨ SqT K H' b ys := fun {H'} e => hq.imp (fun h => ex_l e h.2) (fun h => ex_t e h.2)
        refine q_when (b := false) (et_is (et_or (et_test (ev_op (ev_var rfl) ev_c (rv_val fun H1 _ Q q => ⟨rfl, q⟩))) (fun _ => et_test (ev_op (ev_var rfl) ev_c (rv_val fun H1 _ Q q => ⟨rfl, q⟩)))) (by simp)) (fun ht => Bool.noConfusion ht) (fun _ H1 e1 => ?_)
        have t2 : ∀ {σ : L2.St} {H' : Hp}, σ[0]? = some (some (.ref a)) → σ[1]? = some (some (.ref b)) → Ex H H' → Ev (tCB (rIsi K) (tCons (tVar 1) (tCons (tC (.ty "bool")) tNil))) σ H' (.bl false) ∧ Ev (tCB (rIsi K) (tCons (tVar 0) (tCons (tC (.ty "bool")) tNil))) σ H' (.bl false) ∧
            Ev (tCB (rIsiT K) (tCons (tVar 1) (tCons (tTup (tCons (tC (.ty "int")) (tCons (tC (.ty "str")) tNil))) tNil))) σ H' (.bl false) ∧
            ∃ b1 b2, Ev (tCB (rIsi K) (tCons (tVar 1) (tCons (tC (.ty "list")) tNil))) σ H' (.bl b1) ∧ Ev (tCB (rIsi K) (tCons (tVar 0) (tCons (tC (.ty "list")) tNil))) σ H' (.bl b1) ∧ Ev (tCB (rIsi K) (tCons (tVar 1) (tCons (tC (.ty "tuple")) tNil))) σ H' (.bl b2) ∧ Ev (tCB (rIsi K) (tCons (tVar 0) (tCons (tC (.ty "tuple")) tNil))) σ H' (.bl b2) := fun {σ H'} h0 h1 e => by
          rcases ta e with ⟨p, q⟩ | ⟨p, q⟩
          · exact ⟨ev_isi (ev_var h1) q kb_list_bool, ev_isi (ev_var h0) p kb_list_bool, ev_isi2 (ev_var h1) q kb_list_int kb_list_str, true, false, ev_isi (ev_var h1) q kb_list_list, ev_isi (ev_var h0) p kb_list_list, ev_isi (ev_var h1) q kb_list_tuple, ev_isi (ev_var h0) p kb_list_tuple⟩
          · exact ⟨ev_isi (ev_var h1) q kb_tuple_bool, ev_isi (ev_var h0) p kb_tuple_bool, ev_isi2 (ev_var h1) q kb_tuple_int kb_tuple_str, false, true, ev_isi (ev_var h1) q kb_tuple_list, ev_isi (ev_var h0) p kb_tuple_list, ev_isi (ev_var h1) q kb_tuple_tuple, ev_isi (ev_var h0) p kb_tuple_tuple⟩
        obtain ⟨i1, i2, _⟩ := t2 (σ := [some (.ref a), some (.ref b), none]) rfl rfl e1
        refine q_when (b := false) (et_is (et_or (et_B i1) (fun _ => et_B i2)) (by simp)) (fun ht => Bool.noConfusion ht) (fun _ H2 e2 => ?_)
        obtain ⟨_, _, i3, _⟩ := t2 (σ := [some (.ref a), some (.ref b), none]) rfl rfl (e1.trans e2)
        refine q_when (b := false) (et_B i3) (fun ht => Bool.noConfusion ht) (fun _ H3 e3 => ?_)
        have e03 := (e1.trans e2).trans e3
        obtain ⟨_, _, _, b1, b2, j1, j2, j3, j4⟩ := t2 (σ := [some (.ref a), some (.ref b), none]) rfl rfl e03
        refine q_when (b := false) (et_is (et_or (et_test (ev_op j1 j2 (rv_ne rfl))) (fun _ => et_test (ev_op j3 j4 (rv_ne rfl)))) (by simp)) (fun ht => Bool.noConfusion ht) (fun _ H4 e4 => ?_)
        have e04 := e03.trans e4
        refine s_ret (ev_is (ev_andV (ev_op (ev_lenQ (ev_var rfl) (qa e04)) (ev_lenQ (ev_var rfl) (qb e04)) (rv_eq rfl)) (fun _ => ev_allT (n := ys.length) ?_)) (by simp [hlen])) fun H5 e5 => k _ (e04.trans e5)
        refine el_lcR1 (n := (ys.length : Int)) (fun _ => true) (fun _ => V.bl true) (ea_cons (ev_lenQ (ev_var rfl) (qb e04)) ea_nil) (by omega) (fun x => rfl) (fun i H6 e6 hi6 H7 e7 Q' q' => q' H7 (Ex.refl H7)) (fun i H6 e6 hi6 _ => ?_)
        have hiy : i < ys.length := by omega
        have hix : i < xs.length := by omega
        have gx : xs[i]? = some xs[i] := List.getElem?_eq_getElem hix
        have gy : ys[i]? = some ys[i] := List.getElem?_eq_getElem hiy
        have e06 := e04.trans e6
        exact ev_call (ea_cons (ev_op (ev_var rfl) (ev_var rfl) (rv_ixQ (qa e06) (atI_nat gx))) (ea_cons (ev_op (ev_var rfl) (ev_var rfl) (rv_ixQ (qb e06) (atI_nat gy))) ea_nil)) fun H7 e7 Q' q' E' => ⟨_, _, rfl, (hi i _ _ gx gy).ext (e06.trans e7), q'⟩
end
end Hs
namespace Hs
open PySem PySem.Spec PyProof.Rows L2 Evl
/-! ### numbers of bounded size -/
def Bd (n : Nat) (i : Int) : Prop := i.natAbs < 2 ^ n
theorem Bd.mono {n m : Nat} {i : Int} (h : Bd n i) (l : n ≤ m) : Bd m i := Nat.lt_of_lt_of_le h (Nat.pow_le_pow_right (by decide) l)
theorem Bd.sub {n : Nat} {i j : Int} (hi : Bd n i) (hj : Bd n j) : Bd (n + 1) (i - j) := by
  unfold Bd at *
  rw [Nat.pow_succ]
  generalize 2 ^ n = N at *
  omega
theorem Bd.of {n : Nat} {i : Int} (h : i.natAbs < 2 ^ n) : Bd n i := h
/-! ### places, pieces, blocks -/
abbrev Pt := Int × Int
def prV (x : Pt) : List V := [.int x.1, .int x.2]
def RetU (xs : List V) (H : Hp) (Q : VK) : Prop := ∀ p H2, H p = none → Ex H H2 → H2 p = some (.tup xs) → Q (.ref p) H2
theorem RetU.go {xs : List V} {H H' : Hp} {Q : VK} (k : RetU xs H Q) (e : Ex H H') {p : Addr} {H2 : Hp} (hp : H' p = none) (e2 : Ex H' H2) (h : H2 p = some (.tup xs)) : Q (.ref p) H2 := k p H2 (fresh_back e hp) (e.trans e2) h
/-- a place within 2 ^ n -/
def Pl (K : PySem.W.Frag) (n : Nat) (H : Hp) (p : Addr) (x : Pt) : Prop := SqT K H p (prV x) ∧ Bd n x.1 ∧ Bd n x.2
theorem Pl.ext {K : PySem.W.Frag} {n : Nat} {H H' : Hp} {p : Addr} {x : Pt} (h : Pl K n H p x) (e : Ex H H') : Pl K n H' p x := ⟨ex_t e h.1, h.2⟩
def Pc (K : PySem.W.Frag) (n : Nat) (H : Hp) (p : Addr) (x y : Pt) : Prop := ∃ a b, SqT K H p [.ref a, .ref b] ∧ Pl K n H a x ∧ Pl K n H b y
theorem Pc.ext {K : PySem.W.Frag} {n : Nat} {H H' : Hp} {p : Addr} {x y : Pt} (h : Pc K n H p x y) (e : Ex H H') : Pc K n H' p x y := by
  obtain ⟨a, b, h1, h2, h3⟩ := h
  exact ⟨a, b, ex_t e h1, h2.ext e, h3.ext e⟩
structure Blk where
  left : Int
  low : Int
  right : Int
  high : Int
def blV (b : Blk) : List V := [.int b.left, .int b.low, .int b.right, .int b.high]
def BdB (n : Nat) (b : Blk) : Prop := Bd n b.left ∧ Bd n b.low ∧ Bd n b.right ∧ Bd n b.high
def Bl (K : PySem.W.Frag) (n : Nat) (H : Hp) (p : Addr) (b : Blk) : Prop := SqT K H p (blV b) ∧ BdB n b
theorem Bl.ext {K : PySem.W.Frag} {n : Nat} {H H' : Hp} {p : Addr} {x : Blk} (h : Bl K n H p x) (e : Ex H H') : Bl K n H' p x := ⟨ex_t e h.1, h.2⟩
def cross (a b c : Pt) : Int := (b.1 - a.1) * (c.2 - a.2) - (b.2 - a.2) * (c.1 - a.1)
def mn (i j : Int) : Int := if j < i then j else i
def mx (i j : Int) : Int := if j > i then j else i
def boxOf (a b : Pt) : Blk := ⟨mn a.1 b.1, mn a.2 b.2, mx a.1 b.1, mx a.2 b.2⟩
def hts (b : Blk) (x : Pt) : List Int := [x.1 - b.left, b.right - x.1, x.2 - b.low, b.high - x.2]
end Hs
namespace Hs
open PySem PySem.Spec PyProof.Rows L2 Evl
/-! ### min of a tuple of numbers -/
def rMinT (K : PySem.W.Frag) : List V → Hp → VK → Prop := fun vs H Q => ∃ (a : Addr) (ns : List Int), vs = [V.ref a] ∧ SqT K H a (ns.map V.int) ∧ 0 < ns.length ∧ ∀ m, m ∈ ns → (∀ y, y ∈ ns → m ≤ y) → Q (.int m) H
theorem minOf_mem : ∀ (xs : List Int) (x : Int), PySem.W.minOf x xs ∈ x :: xs ∧ ∀ y ∈ x :: xs, PySem.W.minOf x xs ≤ y := by
  intro xs
  induction xs with
  | nil =>
    intro x
    exact ⟨List.mem_singleton.mpr rfl, fun y hy => by rw [List.mem_singleton.mp hy]; exact Int.le_refl _⟩
  | cons z zs ih =>
    intro x
    have e : PySem.W.minOf x (z :: zs) = PySem.W.minOf (if decide (z < x) = true then z else x) zs := rfl
    obtain ⟨h1, h2⟩ := ih (if decide (z < x) = true then z else x)
    rw [e]
    generalize PySem.W.minOf (if decide (z < x) = true then z else x) zs = m at h1 h2 ⊢
    have h3 := h2 _ (List.mem_cons_self ..)
    refine ⟨?_, fun y hy => ?_⟩
    · rcases List.mem_cons.mp h1 with q | q
      · rw [q]
        split
        · exact List.mem_cons_of_mem _ (List.mem_cons_self ..)
        · exact List.mem_cons_self ..
      · exact List.mem_cons_of_mem _ (List.mem_cons_of_mem _ q)
    · have h4 : m ≤ x ∧ m ≤ z := by
        split at h3
        · rename_i q
          have := of_decide_eq_true q
          omega
        · rename_i q
          have : ¬ z < x := fun w => q (decide_eq_true w)
          omega
      rcases List.mem_cons.mp hy with q | q
      · rw [q]
        exact h4.1
      · rcases List.mem_cons.mp q with q | q
        · rw [q]
          exact h4.2
        · exact h2 y (List.mem_cons_of_mem _ q)
theorem hold_ints {h : Heap} : ∀ {ns : List Int} {its : List Value}, Vals (ns.map V.int) its → PySem.W.HoldAll h its ns
  | [], _, r => by
    cases r
    exact .nil
  | n :: ns, _, r => by
    cases r with
    | cons r rr =>
      obtain ⟨t, rfl⟩ := r
      exact .cons (PySem.W.holds_int n t) (hold_ints rr)
theorem cr_minT {X : Cx} {k : Nat} (hc : X.calm = true) (hr : Room k X.A) : CallR X (.builtin "min") (rMinT X.K) := by
  intro pins s σ H vs us Q I r h
  obtain ⟨a, ns, rfl, hs, hne, q⟩ := h
  obtain ⟨its, rv, hl, _⟩ := I.tuple hs
  rw [Vals.ref1 r]
  cases ns with
  | nil => cases hne
  | cons x xs =>
    refine PySem.W.min_tuple_datum (x := x) (xs := xs) (I.ok.hd hc) (show s.heap.IsTuple a its.toArray from hl) (by simpa using hold_ints rv) ?_ fun i v h' tk hv hh hk => ?_
    · have := hr.un
      show X.A.units + 1 + 0 < _
      omega
    · obtain ⟨t, rfl⟩ := PySem.W.int_of_holds hh
      obtain ⟨m1, m2⟩ := minOf_mem xs x
      exact ⟨.int _, H, I.kept hk, ⟨_, rfl⟩, q _ m1 m2⟩
end Hs
namespace Hs
open PySem PySem.Spec PyProof.Rows L2 Evl
/-- whether x is a point of the piece from a to b -/
def OnP (a b x : Pt) : Prop := cross a b x = 0 ∧ mn a.1 b.1 ≤ x.1 ∧ x.1 ≤ mx a.1 b.1 ∧ mn a.2 b.2 ≤ x.2 ∧ x.2 ≤ mx a.2 b.2
instance (a b x : Pt) : Decidable (OnP a b x) := by
  unfold OnP
  infer_instance
end Hs
namespace Hs
open PySem PySem.Spec PyProof.Rows L2 Evl
/-! ### what is drawn: a grid, places on it -/
theorem bag_ne {H : Hp} {b l p : Addr} {ns : List Int} {n : Nat} (B : BagAt H b l ns n) (hp : H p = none) : p ≠ b := fun z => by
  obtain ⟨i, y, s, c, h, _⟩ := B.ex
  rw [← z, hp] at h
  cases h
theorem bag_lst {H : Hp} {b l : Addr} {ns : List Int} {n : Nat} (B : BagAt H b l ns n) : ∃ xs, H b = some (.lst xs) := by
  obtain ⟨⟨i, z, s, c, h1, _⟩, _⟩ := B
  exact ⟨_, h1⟩
theorem bag_upd {H : Hp} {b l a : Addr} {ns : List Int} {n : Nat} {o : HO} (B : BagAt H b l ns n) (h1 : b ≠ a) (h2 : l ≠ a) : BagAt (upd H a o) b l ns n := by
  obtain ⟨⟨i, z, s, c, q1, q2, q3, q4, q5⟩, q6, q7⟩ := B
  exact ⟨⟨i, z, s, c, by rw [upd_ne h1]; exact q1, q2, q3, q4, q5⟩, by rw [upd_ne h2]; exact q6, q7⟩
theorem But.fresh {H H' : Hp} {b l p : Addr} {ns : List Int} {n : Nat} (k : But H H' b) (B : BagAt H' b l ns n) (hp : H' p = none) : H p = none := by
  cases h : H p with
  | none => rfl
  | some o =>
    have := k p o h (bag_ne B hp)
    rw [hp] at this
    cases this
theorem But.tup {H H' : Hp} {b l p : Addr} {ns : List Int} {n : Nat} {xs : List V} (k : But H H' b) (B : BagAt H b l ns n) (h : H p = some (.tup xs)) : H' p = some (.tup xs) := by
  obtain ⟨ys, hb⟩ := bag_lst B
  refine k _ _ h fun z => ?_
  rw [z, hb] at h
  cases h
def Grid (w x y : Int) : Prop := (1 ≤ w ∧ w ≤ 60) ∧ x.natAbs + w.natAbs ≤ 1000000 ∧ y.natAbs + w.natAbs ≤ 1000000
def spGrid : Sp := fun vs H Q _ => ∃ (b l : Addr) (ns : List Int) (n : Nat), vs = [.ref b] ∧ BagAt H b l ns n ∧ n < 900000 ∧ ∀ (p : Addr) (w x y : Int) (H' : Hp), Grid w x y → H p = none → H' p = some (.tup [.int w, .int x, .int y]) → BagAt H' b l ns (n + 3) → But H H' b → Q (.ref p) H'
def Near (z : Pt) : Prop := z.1.natAbs ≤ 1000000 ∧ z.2.natAbs ≤ 1000000
def spSpot : Sp := fun vs H Q _ => ∃ (b l g : Addr) (ns : List Int) (n : Nat) (w x y : Int), vs = [.ref b, .ref g] ∧ BagAt H b l ns n ∧ n < 900000 ∧ H g = some (.tup [.int w, .int x, .int y]) ∧ Grid w x y ∧
  ∀ (p : Addr) (z : Pt) (H' : Hp), Near z → H p = none → H' p = some (.tup (prV z)) → BagAt H' b l ns (n + 2) → But H H' b → Q (.ref p) H'
section
variable {P : Program} {w : World} {K : PySem.W.Frag} {mg : Str → Option Value} {base : Heap} {f : Addr} {fd : FuncData}
abbrev sGrid : Stmt := top 111
theorem scGrid : FnScope ["_law_bag_here", "_law_way"] ["_law_bag_here"] (defScope sGrid) := ⟨rfl, rfl, rfl, by decide +kernel, rfl, by decide +kernel, by decide +kernel⟩
theorem ok_grid (F : FnP K "_law_grid" sGrid f fd) (O__law_pull : Own P w K mg base 1 "_law_pull" ["_law_bag_here", "_law_many"] spPull) : FnOk P w K mg base CX0 2 f fd ["_law_bag_here"] spGrid := by
  have nd := scGrid.nd
  refine F.ok scGrid (fun vs H Q E h => ?_) (fun cdv A outer s H vs Q E hr h => ⟨_, PSs.nox (pss_cons (ps_set (i := 1) nd rfl (.inl rfl) (Hs.pe_own O__law_pull hr (by first | decide | omega) (by rfl) (pa_cons (pv 0) (pa_cons pe_int pa_nil))))
  (pss_cons (ps_if (pt_cmpR op_lt (pv 1) pe_int (nomark _)) (pss_one (ps_ret (pe_tup (pa_cons pe_int (pa_cons pe_int (pa_cons pe_int pa_nil)))))) pss_nil)
  (pss_cons (ps_if (pt_cmpR op_eq (pv 1) pe_int (nomark _)) (pss_one (ps_ret (pe_tup (pa_cons (pe_op op_add pe_int (Hs.pe_own O__law_pull hr (by first | decide | omega) (by rfl) (pa_cons (pv 0) (pa_cons pe_int pa_nil)))) (pa_cons pe_int (pa_cons pe_int pa_nil)))))) pss_nil)
  (pss_one (ps_ret (pe_tup (pa_cons pe_int (pa_cons (pe_op op_mulW (pe_op op_sub (pe_op op_pow pe_int pe_int) pe_int) (pe_op op_sub (pe_op op_mulW pe_int (Hs.pe_own O__law_pull hr (by first | decide | omega) (by rfl) (pa_cons (pv 0) (pa_cons pe_int pa_nil)))) pe_int)) (pa_cons (pe_op op_mulW (pe_op op_sub (pe_op op_pow pe_int pe_int) pe_int) (pe_op op_sub (Hs.pe_own O__law_pull hr (by first | decide | omega) (by rfl) (pa_cons (pv 0) (pa_cons pe_int pa_nil))) pe_int)) pa_nil))))))))), ?_⟩)
  · obtain ⟨b, l, ns, n, rfl, _⟩ := h
    rfl
  · obtain ⟨b, l, ns, n, rfl, B, hn, k⟩ := h
    refine ⟨_, rfl, b, l, ns, n, 6, rfl, B, by omega, by decide, by decide, fun v H1 v0 v1 B1 b1 => ?_⟩
    refine q_when (et_test (ev_op (ev_var rfl) ev_c rv_I0)) (fun ht H2 e2 => ?_) (fun ht H2 e2 => ?_)
    · exact s_retU (eu_tup (ea_cons ev_c (ea_cons ev_c (ea_cons ev_c ea_nil))) (by simp)) fun p H3 hp e3 h3 => k p 4 0 0 H3 ⟨by decide, by decide, by decide⟩ (b1.fresh B1 (fresh_back e2 hp)) h3 (B1.ext (e2.trans e3) (by omega)) (b1.ex (e2.trans e3))
    · refine q_when (et_test (ev_op (ev_var rfl) ev_c (rv_eq rfl))) (fun ht H3 e3 => ?_) (fun ht H3 e3 => ?_)
      · have e23 := e2.trans e3
        refine ⟨_, rfl, b, l, ns, n + 1, 60, rfl, B1.ext e23 (Nat.le_refl _), by omega, by decide, by decide, fun v2 H4 v20 v21 B4 b4 => ⟨_, _, rfl, rfl, sz_of (by simp), fun p hp => ?_⟩⟩
        have b14 := (b1.ex e23).trans b4
        exact k p _ _ _ _ ⟨⟨by omega, by omega⟩, by omega, by omega⟩ (b14.fresh B4 hp) upd_same (B4.ext (Ex.new hp) (by omega)) (b14.ex (Ex.new hp))
      · have e23 := e2.trans e3
        refine ⟨_, _, rfl, rfl, ⟨by decide, by decide, by decide⟩, _, _, rfl, rfl, _, rfl, b, l, ns, n + 1, 2, rfl, B1.ext e23 (Nat.le_refl _), by omega, by decide, by decide, fun v2 H4 v20 v21 B4 b4 => ⟨_, _, rfl, rfl, mul64 (by decide) (by omega), _, _, rfl, rfl, _, _, rfl, rfl, mul64 (by decide) (by omega), ?_⟩⟩
        refine ⟨_, _, rfl, rfl, ⟨by decide, by decide, by decide⟩, _, _, rfl, rfl, _, rfl, b, l, ns, n + 2, 3, rfl, B4, by omega, by decide, by decide, fun v3 H5 v30 v31 B5 b5 => ⟨_, _, rfl, rfl, _, _, rfl, rfl, mul64 (by decide) (by omega), sz_of (by simp), fun p hp => ?_⟩⟩
        have b15 := ((b1.ex e23).trans b4).trans b5
        have t6 : (10 : Int) ^ Int.toNat 6 = 1000000 := by decide
        exact k p _ _ _ _ ⟨⟨by omega, by omega⟩, by rw [t6]; omega, by rw [t6]; omega⟩ (b15.fresh B5 hp) upd_same (B5.ext (Ex.new hp) (by omega)) (b15.ex (Ex.new hp))
abbrev sSpot : Stmt := top 112
theorem scSpot : FnScope ["_law_bag_here", "_law_grid_here", "_law_wide", "_law_across", "_law_north", "_law_first"] ["_law_bag_here", "_law_grid_here"] (defScope sSpot) := ⟨rfl, rfl, rfl, by decide +kernel, rfl, by decide +kernel, by decide +kernel⟩
theorem ok_spot (F : FnP K "_law_spot" sSpot f fd) (O__law_pull : Own P w K mg base 1 "_law_pull" ["_law_bag_here", "_law_many"] spPull) : FnOk P w K mg base CX0 2 f fd ["_law_bag_here", "_law_grid_here"] spSpot := by
  have nd := scSpot.nd
  refine F.ok scSpot (fun vs H Q E h => ?_) (fun cdv A outer s H vs Q E hr h => ⟨_, PSs.nox (pss_cons (ps_asg (pv 1) (pg_tup rfl (pgs_cons (pg_name (i := 2) nd rfl (.inl rfl)) (pgs_cons (pg_name (i := 3) nd rfl (.inl rfl)) (pgs_cons (pg_name (i := 4) nd rfl (.inl rfl)) pgs_nil)))))
  (pss_cons (ps_set (i := 5) nd rfl (.inl rfl) (pe_op op_sub (pe_op op_add (pv 3) (Hs.pe_own O__law_pull hr (by first | decide | omega) (by rfl) (pa_cons (pv 0) (pa_cons (pe_op op_add (pe_op op_mulW pe_int (pv 2)) pe_int) pa_nil)))) (pv 2)))
  (pss_one (ps_ret (pe_tup (pa_cons (pv 5) (pa_cons (pe_op op_sub (pe_op op_add (pv 4) (Hs.pe_own O__law_pull hr (by first | decide | omega) (by rfl) (pa_cons (pv 0) (pa_cons (pe_op op_add (pe_op op_mulW pe_int (pv 2)) pe_int) pa_nil)))) (pv 2)) pa_nil))))))), ?_⟩)
  · obtain ⟨b, l, g, ns, n, w, x, y, rfl, _⟩ := h
    rfl
  · obtain ⟨b, l, g, ns, n, w, x, y, rfl, B, hn, hg, G, k⟩ := h
    obtain ⟨⟨w0, w1⟩, gx, gy⟩ := G
    refine ⟨_, rfl, g, _, rfl, st_of hg, rfl, _, _, rfl, _, _, rfl, _, _, rfl, rfl, ?_⟩
    show tSeq _ _ _ [some (.ref b), some (.ref g), some (.int w), some (.int x), some (.int y), none] H
    refine ⟨_, rfl, _, rfl, _, rfl, _, _, rfl, rfl, mul64 (by decide) (by omega), _, _, rfl, rfl, b, l, ns, n, _, rfl, B, by omega, by omega, by omega, fun v H1 v0 v1 B1 b1 => ⟨_, _, rfl, rfl, _, rfl, _, _, rfl, rfl, ?_⟩⟩
    refine ⟨_, rfl, _, rfl, _, rfl, _, rfl, _, _, rfl, rfl, mul64 (by decide) (by omega), _, _, rfl, rfl, b, l, ns, n + 1, _, rfl, B1, by omega, by omega, by omega, fun v2 H2 v20 v21 B2 b2 => ⟨_, _, rfl, rfl, _, rfl, _, _, rfl, rfl, sz_of (by simp), fun p hp => ?_⟩⟩
    have b12 := b1.trans b2
    refine k p (x + v - w, y + v2 - w) _ ⟨?_, ?_⟩ (b12.fresh B2 hp) upd_same (B2.ext (Ex.new hp) (by omega)) (b12.ex (Ex.new hp))
    · show (x + v - w).natAbs ≤ _
      omega
    · show (y + v2 - w).natAbs ≤ _
      omega
end
end Hs
namespace Hs
open PySem PySem.Spec PyProof.Rows L2 Evl
theorem q_ev {te : TE} {g : TG} {tz : TS} {D : Ends} {σ : L2.St} {H : Hp} (h : te σ H fun x H1 => g x σ H1 (tz D)) : tSeq (tAsg te g) tz D σ H := h
/-! ### comprehensions whose elements are new tuples -/
/-- new tuples, by their items -/
def Tups (H : Hp) (ps : List Addr) (us : List (List V)) : Prop := ps.length = us.length ∧ ∀ (i : Nat) (p : Addr) (u : List V), ps[i]? = some p → us[i]? = some u → H p = some (.tup u)
theorem Tups.ext {H H' : Hp} {ps : List Addr} {us : List (List V)} (h : Tups H ps us) (e : Ex H H') : Tups H' ps us := ⟨h.1, fun i p u hp hu => e _ _ (h.2 i p u hp hu)⟩
theorem Tups.snoc {H : Hp} {ps : List Addr} {us : List (List V)} {p : Addr} {u : List V} (h : Tups H ps us) (hp : H p = some (.tup u)) : Tups H (ps ++ [p]) (us ++ [u]) := by
  refine ⟨by rw [List.length_append, List.length_append, h.1] <;> rfl, fun j r v hr hv => ?_⟩
  have hl := h.1
  by_cases hj : j < ps.length
  · rw [List.getElem?_append_left hj] at hr
    rw [List.getElem?_append_left (by omega)] at hv
    exact h.2 j r v hr hv
  · rw [List.getElem?_append_right (by omega)] at hr
    rw [List.getElem?_append_right (by omega)] at hv
    have e0 : j - ps.length = 0 := by
      have : j - ps.length < 1 := (List.getElem?_eq_some_iff.mp hr).1
      omega
    have e1 : j - us.length = 0 := by omega
    rw [e0] at hr
    rw [e1] at hv
    cases hr
    cases hv
    exact hp
/-- a new list of new tuples -/
def EvLU (te : TE) (σ : L2.St) (H : Hp) (us : List (List V)) : Prop := ∀ H1, Ex H H1 → ∀ Q : VK, (∀ (p : Addr) (ps : List Addr) (H2 : Hp), H1 p = none → Ex H1 H2 → H2 p = some (.lst (ps.map V.ref)) → Tups H2 ps us → Q (.ref p) H2) → te σ H1 Q
/-- the turns so far -/
def Cu (H : Hp) (us : List (List V)) (Dl : Addr) (i : Nat) (H' : Hp) : Prop := H Dl = none ∧ Ex H H' ∧ ∃ ps : List Addr, H' Dl = some (.lst (ps.map V.ref)) ∧ Tups H' ps (us.take i)
theorem cu_turn {H H' : Hp} {us : List (List V)} {u : List V} {Dl : Addr} {i : Nat} {σ2 : L2.St} {te : TE} (p : Cu H us Dl i H') (hi : i < 50000) (hu : us[i]? = some u) (he : EvU te σ2 H u) :
    tYes σ2 H' fun b H3 => if b = true then te σ2 H3 fun y H4 => ∃ acc, H4 Dl = some (.lst acc) ∧ acc.length < sizeLine ∧ Cu H us Dl (i + 1) (upd H4 Dl (.lst (acc ++ [y]))) else Cu H us Dl (i + 1) H3 := by
  obtain ⟨p1, p2, ps, p3, p4⟩ := p
  show te σ2 H' fun y H4 => ∃ acc, H4 Dl = some (.lst acc) ∧ acc.length < sizeLine ∧ Cu H us Dl (i + 1) (upd H4 Dl (.lst (acc ++ [y])))
  refine he H' p2 _ fun q H4 hq e4 h4 => ⟨ps.map V.ref, e4 _ _ p3, sz_lt ?_, p1, Ex.mut (p2.trans e4) p1, ps ++ [q], by rw [upd_same, List.map_append] <;> rfl, ?_⟩
  · have := p4.1
    rw [List.length_map, this, List.length_take]
    omega
  · have e : us.take (i + 1) = us.take i ++ [u] := by rw [List.take_add_one, hu] <;> rfl
    rw [e]
    have h4D := e4 _ _ p3
    have keep : ∀ r v, H4 r = some (.tup v) → upd H4 Dl (.lst (ps.map V.ref ++ [.ref q])) r = some (.tup v) := fun r v h => by
      rw [upd_ne (ne_of h h4D (by intro z; cases z))]
      exact h
    exact Tups.snoc ⟨p4.1, fun j r v hr hv => keep _ _ (e4 _ _ (p4.2 j r v hr hv))⟩ (keep _ _ h4)
section
variable {K : PySem.W.Frag} {σ : L2.St} {H : Hp} {te : TE}
theorem el_lcT' {a : Addr} {xs : List V} {tl : TE} {j : Nat} {vs : List Nat} (v : Nat → V) (h : Ev tl σ H (.ref a)) (hx : SqT K H a xs) (hz : xs.length ≤ 40000) (hw : ∀ x, wipe ((wipe σ vs).set j (some x)) vs = wipe σ vs)
    (he : ∀ (i : Nat) (x : V) H1, Ex H H1 → xs[i]? = some x → Ev te ((wipe σ vs).set j (some x)) H1 (v i)) :
    EvL (tLc (iTup K tl) (gName j) tYes te vs) σ H (given xs.length (fun _ => true) v) := fun H0 e Q q => h H0 e _ fun H1 e1 => ⟨a, rfl, ⟨xs, ex_t (e.trans e1) hx⟩, fun Dl hD =>
  lc_tup (xs := xs) (Cw H1 (fun _ => true) v Dl) ⟨hD, Ex.new hD, upd_same⟩ (fun i H' _ p => ex_t ((e.trans e1).trans p.2.1) hx) (fun i x H' hi p => ⟨hw x, cw_turn p (by have := (List.getElem?_eq_some_iff.mp hi).1; omega) (fun H1 _ Q q => q H1 (Ex.refl H1)) (fun _ => he i x H1 (e.trans e1) hi)⟩)
    (fun H' p => q Dl H' (fresh_back e1 p.1) (e1.trans p.2.1) p.2.2)⟩
/-! ### the law's own comparison, of lists of plain values -/
/-! ### the program's functions, by their readings -/
end
end Hs
namespace Hs
/-! ### cutting a hull down by heights: what is left, in whole numbers -/
def dot (w h : List Int) : Int := (List.zipWith (· * ·) w h).sum
/-- a combination of two -/
def comb (p : List Int) (a : Int) (q : List Int) (b : Int) : List Int := List.zipWith (fun x y => x * a + y * b) p q
def gl (g : Int) : List Int → Int
  | [] => g
  | w :: ws => gl (Int.gcd g w : Int) ws
/-- the point between prev and p at which the height is 0 -/
def mid (prev : List Int) (a : Int) (p : List Int) (b : Int) : List Int := comb prev (b.natAbs : Int) p (a.natAbs : Int)
def betw (prev : List Int) (a : Int) (p : List Int) (b : Int) : List Int := (mid prev a p b).map (·.fdiv (gl 0 (mid prev a p b)))
/-! ### changes of sign around -/
/-- whether two are unlike, as a number -/
def nq (a b : Bool) : Nat := (a != b).toNat
/-- how often the sign of f changes around the points -/
def pos (f p : List Int) : Bool := decide (0 < dot p f)
/-! ### one cut -/
/-- .. the same, nothing left out -/
def ins (h prev : List Int) : List (List Int) → List (List Int)
  | [] => []
  | p :: ps => (if dot p h * dot prev h < 0 then [betw prev (dot prev h) p (dot p h)] else []) ++ p :: ins h p ps
end Hs
namespace Hs
theorem big {f : List Int → Int} : ∀ pts : List (List Int), ∃ N : Int, 0 < N ∧ ∀ p ∈ pts, -f p < N
  | [] => ⟨1, by decide, fun p hp => by cases hp⟩
  | x :: pts => by
    obtain ⟨N, n0, hN⟩ := big (f := f) pts
    refine ⟨N + (f x).natAbs + 1, by omega, fun p hp => ?_⟩
    rcases List.mem_cons.mp hp with rfl | hp
    · omega
    · have := hN p hp
      omega
/-! ### the corners of a piece -/
end Hs
namespace Hs
/-! ### pieces that meet -/
def CutP (a b c d : Pt) : Prop := (cross a b c * cross a b d < 0 ∧ cross c d a * cross c d b < 0) ∨ OnP a b c ∨ OnP a b d ∨ OnP c d a ∨ OnP c d b
instance (a b c d : Pt) : Decidable (CutP a b c d) := by
  unfold CutP
  infer_instance
def Meet (a b c d : Pt) : Prop := ∃ w0 w1 v0 v1 : Int, 0 ≤ w0 ∧ 0 ≤ w1 ∧ 0 ≤ v0 ∧ 0 ≤ v1 ∧ 0 < w0 + w1 ∧ w0 + w1 = v0 + v1 ∧ w0 * a.1 + w1 * b.1 = v0 * c.1 + v1 * d.1 ∧ w0 * a.2 + w1 * b.2 = v0 * c.2 + v1 * d.2
def BoxM (p q : Blk) : Prop := p.left ≤ q.right ∧ q.left ≤ p.right ∧ p.low ≤ q.high ∧ q.low ≤ p.high
instance (p q : Blk) : Decidable (BoxM p q) := by
  unfold BoxM
  infer_instance
def Bes (a b : Pt) (xs : List Pt) : Prop := (∀ x ∈ xs, 0 < cross a b x) ∨ (∀ x ∈ xs, cross a b x < 0)
instance (a b : Pt) (xs : List Pt) : Decidable (Bes a b xs) := by
  unfold Bes
  infer_instance
def Sat (a b c d : Pt) : Prop := BoxM (boxOf a b) (boxOf c d) ∧ ¬ Bes a b [c, d] ∧ ¬ Bes c d [a, b]
instance (a b c d : Pt) : Decidable (Sat a b c d) := by
  unfold Sat
  infer_instance
theorem Meet.symm {a b c d : Pt} (h : Meet a b c d) : Meet c d a b := by
  obtain ⟨w0, w1, v0, v1, h1, h2, h3, h4, h5, h6, h7, h8⟩ := h
  exact ⟨v0, v1, w0, w1, h3, h4, h1, h2, by omega, h6.symm, h7.symm, h8.symm⟩
theorem over {p q r s : Int} (h1 : mn p q ≤ mx r s) (h2 : mn r s ≤ mx p q) : (mn p q ≤ r ∧ r ≤ mx p q) ∨ (mn p q ≤ s ∧ s ≤ mx p q) ∨ (r ≠ s ∧ ((mn r s ≤ p ∧ p ≤ mx r s) ∨ (mn r s ≤ q ∧ q ≤ mx r s))) := by
  unfold mn mx at *
  split at h1 <;> split at h1 <;> split at h2 <;> split at h2 <;> (try split) <;> (try split) <;> omega
end Hs
namespace Hs
/-! ### blocks and pieces -/
def Vb (B : Blk) : Prop := B.left ≤ B.right ∧ B.low ≤ B.high
def InB (B : Blk) (x : Pt) : Prop := (B.left ≤ x.1 ∧ x.1 ≤ B.right) ∧ B.low ≤ x.2 ∧ x.2 ≤ B.high
instance (B : Blk) (x : Pt) : Decidable (InB B x) := by
  unfold InB
  infer_instance
def corners (B : Blk) : List Pt := [(B.left, B.low), (B.right, B.low), (B.right, B.high), (B.left, B.high)]
def Hits (B : Blk) (a b : Pt) : Prop := InB B a ∨ InB B b ∨ CutP a b (B.left, B.high) (B.left, B.low) ∨ CutP a b (B.left, B.low) (B.right, B.low) ∨ CutP a b (B.right, B.low) (B.right, B.high) ∨ CutP a b (B.right, B.high) (B.left, B.high)
instance (B : Blk) (a b : Pt) : Decidable (Hits B a b) := by
  unfold Hits
  infer_instance
def SatB (B : Blk) (a b : Pt) : Prop := BoxM B (boxOf a b) ∧ ¬ Bes a b (corners B)
instance (B : Blk) (a b : Pt) : Decidable (SatB B a b) := by
  unfold SatB
  infer_instance
/-! ### no separation by the sides is enough -/
end Hs
namespace Hs
open PySem PySem.Spec PyProof.Rows L2 Evl
/-! ### whether figures meet -/
section
variable {P : Program} {w : World} {K : PySem.W.Frag} {mg : Str → Option Value} {base : Heap} {f : Addr} {fd : FuncData} {n : Nat}
/-- places that stand, in a row -/
def PlL (K : PySem.W.Frag) (n : Nat) (H : Hp) (ps : List Addr) (xs : List Pt) : Prop := ps.length = xs.length ∧ ∀ (i : Nat) (p : Addr) (x : Pt), ps[i]? = some p → xs[i]? = some x → Pl K n H p x
theorem PlL.ext {H H' : Hp} {ps : List Addr} {xs : List Pt} (h : PlL K n H ps xs) (e : Ex H H') : PlL K n H' ps xs := ⟨h.1, fun i p x hp hx => (h.2 i p x hp hx).ext e⟩
end
end Hs
namespace Hs
open PySem PySem.Spec PyProof.Rows L2 LamX NdefX
/-! ### functions by a lambda as values: kept anywhere, called frames deeper while their maker's frame rests -/
/-- a lambda's function: its cells cl, its code object c -/
structure LF where
  qual : Str
  params : Arguments
  body : Expr
  scope : Scope
  cl : List (Str × Addr)
  c : Addr
def LF.nf (F : LF) : NF := ⟨"<lambda>", F.qual, F.params, [], F.scope, F.cl, F.c⟩
/-- the object at f is the function F -/
def LamO (f : Addr) (F : LF) : HO := .ext fun h => ∃ pm ctv : Value, h.get? f = some (PySem.W.kla_obj "<lambda>" F.qual F.params F.body F.scope F.cl pm F.c ctv)
theorem lamO_ne {f : Addr} {F : LF} (ps : Array Value) : LamO f F ≠ .tbl ps := fun z => by
  unfold LamO at z
  cases z
theorem lamO_at {P : Program} {w : World} {H : Hp} {h : Heap} {f : Addr} {F : LF} (hok : HOk P w H h) (e : H f = some (LamO f F)) : ∃ pm ctv : Value, h.get? f = some (PySem.W.kla_obj "<lambda>" F.qual F.params F.body F.scope F.cl pm F.c ctv) := by
  obtain ⟨z, _, _⟩ := hok f _ e
  exact z
section
variable {X : Cx} {pins : List (Addr × Obj)} {σ : L2.St} {H : Hp} {s : Shared}
theorem inv_lam {F : LF} {t' : Nat} {pm ctv : Value} (I : Inv X pins σ H s) :
    Inv X pins σ (upd H s.heap.objs.size (LamO s.heap.objs.size F)) { s with heap := s.heap.push (PySem.W.kla_obj "<lambda>" F.qual F.params F.body F.scope F.cl pm F.c ctv), toks := t' } := by
  have e : (s.heap.push (PySem.W.kla_obj "<lambda>" F.qual F.params F.body F.scope F.cl pm F.c ctv)).get? s.heap.objs.size = some (PySem.W.kla_obj "<lambda>" F.qual F.params F.body F.scope F.cl pm F.c ctv) := Heap.get?_push_size _ rfl
  exact I.laid (a := s.heap.objs.size) (fun b u z => Heap.get?_push_of_some _ z) (Nat.le_refl _) ⟨⟨pm, ctv, e⟩, ⟨_, e⟩, fun h1 h2 ⟨p, t, z⟩ st => ⟨p, t, st _ z⟩⟩
/-- lambda ..: a function of its own, known from now on -/
theorem lam_new {T : List (Addr × Str)} {c P : Addr} {params : Arguments} {body : Expr} {scope : Scope} {pos : Pos} {E : Value → Shared → Prop} {Q : Value → Shared → Prop} (I : Inv X pins σ H s) (TB : TabB X.base X.mg c P) (hcode : X.env.code = .ref c)
    (hm : (P, X.env.qual ++ "<lambda>") ∈ T) (hu : ∀ p ∈ T, p.1 = P → p.2 = X.env.qual ++ "<lambda>") (hT : Tabs T H) (hdef : defaultsOf params X.env = ([], [])) (hfree : ∀ y ∈ scope.names, y.2 = .free → ∃ c, X.env.cells.lookup y.1 = some c)
    (h : ∀ (f c' : Addr) (H1 : Hp) (s' : Shared), Inv X pins σ H1 s' → ExtN H H1 → (∀ b, H1 b = Option.none → H b = Option.none) → Tabs T H1 → H f = none → H1 f = some (LamO f ⟨X.env.qual ++ "<lambda>", params, body, scope, cloFrom X.env.cells scope.names [], c'⟩) → H1 c' = some (CodeO c' (X.env.qual ++ "<lambda>")) → Q (.ref f) s') :
    wpAny (model X.prog X.w) X.A (eval (.Lambda params body scope pos) X.env) Q E s := by
  refine PySem.W.kla_eval hdef ?_
  obtain ⟨ps, hP, ht, ha⟩ := hT _ hm
  have keep : ∀ {G : Hp} {b : Addr} {o : HO} {n : Addr} {u : HO}, G n = none → G b = some o → upd G n u b = some o := fun {G b o n u} z e => (upd_ne (ne_of_none e z)).trans e
  have hB := TB.bm.keeps I.bk
  have hPo : s.heap.get? P = some { cls := .none, data := .fields ps } := I.hok P _ hP
  have hG := I.mod.glob.keeps I.bk
  have hC := TB.code.keeps I.bk
  cases hc : codeAmong pos ps.toList with
  | some cv =>
    obtain ⟨c', rfl, hco⟩ := ha pos cv hc
    refine PySem.W.kla_makeFunctionHit (mg := X.mg) (c := c) (P := P) (ps := ps) (closure_ok hfree) I.ok.glob hG hcode hC hPo ht hc hB fun ctv h' tk hx hsz => ?_
    have J : Inv X pins σ H { s with heap := h', toks := tk } := I.kept hx
    have n0 : H h'.objs.size = none := J.hok.fresh (Nat.le_refl _)
    exact h _ c' _ _ (inv_lam (F := ⟨X.env.qual ++ "<lambda>", params, body, scope, cloFrom X.env.cells scope.names [], c'⟩) J) (fun b o e _ => keep n0 e) (fun b e => upd_none e) (hT.ext fun b o e => keep n0 e) n0 upd_same (keep n0 hco)
  | none =>
    refine PySem.W.kla_makeFunction (mg := X.mg) (c := c) (P := P) (ps := ps) (closure_ok hfree) I.ok.glob hG hcode hC hPo ht hc TB.gP hB fun c' ctv h' tk hx hge hlt hrec htb => ?_
    obtain ⟨_, oc, vs, t, e2, hoc, hd, hv⟩ := hrec
    cases e2
    have nC : H c' = none := I.hok.fresh hge
    have J := inv_table (t' := tk) (more := #[rawInt pos.line, rawInt pos.col, .ref c']) I hP (fun b o hb e => hx b o hb e) htb hge ⟨oc, vs, t, hoc, hd, hv⟩
    have n0 := J.hok.fresh (Nat.le_refl _)
    have go : ∀ b o, H b = some o → b ≠ P → upd (upd H P (.tbl (ps ++ #[rawInt pos.line, rawInt pos.col, .ref c']))) c' (CodeO c' (X.env.qual ++ "<lambda>")) b = some o := fun b o e nb => by
      rw [upd_ne (ne_of_none e nC), upd_ne nb]
      exact e
    have nP : ∀ b o, H b = some o → (∀ qs, o ≠ .tbl qs) → b ≠ P := fun b o e n z => by
      rw [z, hP] at e
      exact n ps (Option.some.inj e).symm
    have T1 : Tabs T (upd (upd H P (.tbl (ps ++ #[rawInt pos.line, rawInt pos.col, .ref c']))) c' (CodeO c' (X.env.qual ++ "<lambda>"))) := fun p hp => by
      have old : ∀ (ps' : Array Value), (∀ (p' : Pos) (cv : Value), codeAmong p' ps'.toList = some cv → ∃ c, cv = .ref c ∧ H c = some (CodeO c p.2)) → ∀ (p' : Pos) (cv : Value), codeAmong p' ps'.toList = some cv → ∃ d, cv = .ref d ∧ upd (upd H P (.tbl (ps ++ #[rawInt pos.line, rawInt pos.col, .ref c']))) c' (CodeO c' (X.env.qual ++ "<lambda>")) d = some (CodeO d p.2) := fun ps' z p' cv hcv => by
        obtain ⟨d, e1, e2⟩ := z p' cv hcv
        exact ⟨d, e1, go d _ e2 (nP d _ e2 codeO_ne)⟩
      by_cases hb : p.1 = P
      · have eq := hu p hp hb
        have eL : (ps ++ #[rawInt pos.line, rawInt pos.col, .ref c']).toList = ps.toList ++ [rawInt pos.line, rawInt pos.col, .ref c'] := by simp
        refine ⟨_, by rw [hb, upd_ne (ne_of_none hP nC), upd_same], by rw [eL]; exact PySem.TriplesOk_snoc _ _ _ _ ht, fun p' cv hcv => ?_⟩
        rw [eL] at hcv
        rcases among_app _ ht hcv with z | z
        · exact old ps (by rw [eq]; exact ha) p' cv z
        · exact ⟨c', z, by rw [eq, upd_same]⟩
      · obtain ⟨ps', a1, a2, a3⟩ := hT p hp
        exact ⟨ps', go _ _ a1 hb, a2, old ps' a3⟩
    refine h _ c' _ _ (inv_lam (F := ⟨X.env.qual ++ "<lambda>", params, body, scope, cloFrom X.env.cells scope.names [], c'⟩) J) (fun b o e n => keep n0 (go b o e (nP b o e n))) (fun b e => upd_none (upd_none (upd_none e))) (T1.ext fun b o e => keep n0 e) ?_ upd_same (keep n0 upd_same)
    exact I.hok.fresh (Nat.le_trans hge (Nat.le_of_lt hlt))
end
def tMkL (T : List (Addr × Str)) (mk : Addr → LF) : TE := fun _ H Q => Tabs T H ∧ ∀ (f c' : Addr) (H1 : Hp), ExtN H H1 → (∀ b, H1 b = Option.none → H b = Option.none) → Tabs T H1 → H f = none → H1 f = some (LamO f (mk c')) → H1 c' = some (CodeO c' (mk c').qual) → Q (.ref f) H1
theorem pe_lam {X : Cx} {T : List (Addr × Str)} {c P : Addr} {params : Arguments} {body : Expr} {scope : Scope} {pos : Pos} (TB : TabB X.base X.mg c P) (hcode : X.env.code = .ref c)
    (hm : (P, X.env.qual ++ "<lambda>") ∈ T) (hu : ∀ p ∈ T, p.1 = P → p.2 = X.env.qual ++ "<lambda>") (hdef : defaultsOf params X.env = ([], [])) (hfree : ∀ y ∈ scope.names, y.2 = .free → X.env.scope.names.lookup y.1 = some .cell ∨ X.env.scope.names.lookup y.1 = some .free) :
    PE X (.Lambda params body scope pos) (tMkL T fun c' => ⟨X.env.qual ++ "<lambda>", params, body, scope, cloFrom X.env.cells scope.names [], c'⟩) := by
  refine ⟨fun pins s σ H Q I h => ?_⟩
  obtain ⟨hT, h⟩ := h
  refine lam_new I TB hcode hm hu hT hdef (fun y hy e => (hfree y hy e).elim (fun z => I.ok.has _ (.inl z)) fun z => I.ok.has _ (.inr z)) fun f c' H1 s' I1 eN nn T1 f0 f1 c1 => ?_
  exact ⟨.ref f, H1, I1, rfl, h f c' H1 eN nn T1 f0 f1 c1⟩
/-! ### what such a function promises: sp ws, ws what its cells hold when it is called -/
structure LOk (P : Program) (w : World) (K : PySem.W.Frag) (mg : Str → Option Value) (base : Heap) (CX : CXT) (k : Nat) (F : LF) (ps fr : List Str) (sp : List (Option V) → Sp) : Prop where
  len : ∀ ws vs H Q E, sp ws vs H Q E → vs.length = ps.length
  run : ∀ (A : Around) (outer : List Env) (s : Shared) (H : Hp) (f : Addr) (us : List Value) (vs : List V) (ws : List (Option V)) (Q : VK) (E : XK), Room k A → Env0 P w K mg base A outer s H → H f = some (LamO f F) → H F.c = some (CodeO F.c F.qual) →
    CellsAt F.cl fr ws s.heap H → Vals vs us → sp ws vs H Q E → codeAny (model P w) A (.call (.ref f) ⟨us, []⟩) (CR CX outer P w H s Q E) s
section
variable {CX : CXT} {P : Program} {w : World} {K : PySem.W.Frag} {mg : Str → Option Value} {base : Heap} {N ps fr : List Str} {F : LF} {k : Nat} {sp : List (Option V) → Sp}
theorem lok_of (S : NScope N ps fr F.scope) (hb : ∀ (pm ctv : Value) (us : List Value), us.length = ps.length → bindArgs (PySem.W.kla_fn "<lambda>" F.qual F.params F.body F.scope F.cl pm (.ref F.c) ctv) ⟨us, []⟩ = pure (ps.zip us)) (len : ∀ ws vs H Q E, sp ws vs H Q E → vs.length = ps.length)
    (hbody : ∀ (A : Around) (outer : List Env) (s : Shared) (H : Hp) (f : Addr) (vs : List V) (ws : List (Option V)) (Q : VK) (E : XK), Room k (A.deeper (envF F.nf f s.heap.objs.size)) → ws.length = fr.length → sp ws vs H Q E →
      ∃ t, PE (ncx CX P w K mg base N F.nf f A outer s H E) F.body t ∧ t (startF N vs ws) H Q) :
    LOk P w K mg base CX (k + 1) F ps fr sp := by
  refine ⟨len, fun A outer s H f us vs ws Q E hr e0 hf hc C r hsp => ?_⟩
  have hl := len _ _ _ _ _ hsp
  have lim : s.heap.NoLimit := e0.mod.nolimit.keeps fun b o e => (e0.bs b o e).1
  obtain ⟨pm, ctv, ho⟩ := lamO_at e0.hok hf
  refine PySem.W.kla_callFunE hr.depth ho rfl S.co S.gen rfl (codeO_at e0.hok hc) ?_
  rw [hb pm ctv us (by rw [← r.length]; exact hl)]
  refine wpAny_pure (wpAny_newFunctionEnv S.nocell (fun ⟨n, _⟩ hy => S.par n (List.of_mem_zip hy).1) (fun h₁ hns hsb => ⟨lim.fresh _ hsb, ?_⟩) S.kind)
  show codeAny _ _ (.expr F.body (envF F.nf f s.heap.objs.size)) _ _
  have kp : ∀ b o, s.heap.get? b = some o → h₁.get? b = some o := fun b o e => hsb.extBut b o (Nat.ne_of_lt (Heap.lt_size e)) (Heap.get?_push_of_some _ e)
  obtain ⟨t, ht, hq⟩ := hbody A outer s H f vs ws Q E (hr.deeper _) C.len hsp
  have I : Inv (ncx CX P w K mg base N F.nf f A outer s H E) [] (startF N vs ws) H { s with heap := h₁, toks := s.toks + (ps.zip us).length } := inv_startN (F := F.nf) S hr.hd e0 hl r C hns kp
  refine PySem.W.kla_codeExpr (wpAny_mono (ht.run [] _ _ H Q I hq) (fun v s' z => ?_) fun e s' z => z)
  obtain ⟨w', H', J, rv, q⟩ := z
  exact ⟨w', H', J.os, J.bare, J.base, J.hok, rv, q⟩
end
/-! ### calls -/
section
variable {Z : Cx} {pins : List (Addr × Obj)} {σ : L2.St} {H : Hp} {s : Shared} {cl : List (Str × Addr)} {fr : List Str} {ws : List (Option V)}
/-- cells that stand in the base hold what they held there -/
theorem cells_base (C : CellsAt cl fr ws Z.base fun _ => none) (I : Inv Z pins σ H s) : CellsAt cl fr ws s.heap H := by
  have kp : ∀ c v, Z.base.IsCell c v → s.heap.IsCell c v := fun c v ⟨o, ho, hd⟩ => ⟨o, I.bk _ _ ho, hd⟩
  refine ⟨C.len, fun y c e => ?_, C.inj, fun i y e => ?_⟩
  · obtain ⟨_, v, z⟩ := C.all y c e
    have z2 := kp c v z
    obtain ⟨o, ho, _⟩ := z
    exact ⟨(I.bs _ _ ho).2, v, z2⟩
  · obtain ⟨c, hc, hv⟩ := C.has i y e
    refine ⟨c, hc, fun v ev => ?_⟩
    obtain ⟨u, r, z⟩ := hv v ev
    exact ⟨u, r, kp c _ z⟩
theorem cells_in {base' : Heap} (C : CellsAt cl fr ws s.heap H) (hb : ∀ y c, cl.lookup y = some c → base'.get? c = s.heap.get? c) : CellsAt cl fr ws base' fun _ => none := by
  have kp : ∀ y c, cl.lookup y = some c → ∀ v, s.heap.IsCell c v → base'.IsCell c v := fun y c e v ⟨o, ho, hd⟩ => ⟨o, (hb y c e).trans ho, hd⟩
  refine ⟨C.len, fun y c e => ?_, C.inj, fun i y e => ?_⟩
  · obtain ⟨_, v, z⟩ := C.all y c e
    exact ⟨rfl, v, kp y c e v z⟩
  · obtain ⟨c, hc, hv⟩ := C.has i y e
    refine ⟨c, hc, fun v ev => ?_⟩
    obtain ⟨u, r, z⟩ := hv v ev
    exact ⟨u, r, kp y c hc _ z⟩
theorem lamAt_of {f : Addr} {F : LF} (I : Inv Z pins σ H s) (e : H f = some (LamO f F)) : PySem.W.FnAt f s.heap := by
  obtain ⟨pm, ctv, ho⟩ := lamO_at I.hok e
  exact ⟨_, _, _, _, ho⟩
end
section
variable {Z : Cx} {CX : CXT} {F : LF} {ps fr : List Str} {ws : List (Option V)} {i j k : Nat} {x : Str} {sp : List (Option V) → Sp} {E : XK} {t : TA} {e : Expr} {es : List Expr} {p pos : Pos}
theorem run_l {pins : List (Addr × Obj)} {σ : L2.St} {H : Hp} {s : Shared} {Q : VK} {f : Addr} {us : List Value} {vs : List V} (Fn : LOk Z.prog Z.w Z.K Z.mg Z.base CX k F ps fr sp) (hr : Room j Z.A) (hk : k ≤ j) (hx : Passes CX Z E) (I : Inv Z pins σ H s)
    (hf : H f = some (LamO f F)) (hc : H F.c = some (CodeO F.c F.qual)) (C : CellsAt F.cl fr ws s.heap H) (r : Vals vs us) (q : sp ws vs H Q E) :
    wpAny (model Z.prog Z.w) Z.A (call (.ref f) us) (EP Z pins σ Q) Z.xe s := by
  refine wpAny_call (codeAny_mono (Fn.run Z.A Z.stack s H f us vs _ Q E (hr.mono hk) I.env0 hf hc C r q) fun r s' hq => ?_)
  cases r with
  | error er => exact hx pins σ H s er s' I hq
  | ok fl =>
    cases fl with
    | ret u => exact I.after hq
    | next => exact False.elim hq
    | brk => exact False.elim hq
    | cont => exact False.elim hq
/-- x(), x a name of the running frame that holds such a function; its maker's frame rests -/
theorem pe_callL0 (Fn : LOk Z.prog Z.w Z.K Z.mg Z.base CX k F [] fr sp) (C : CellsAt F.cl fr ws Z.base fun _ => none) (hr : Room j Z.A) (hk : k ≤ j) (hx : Passes CX Z E) (hN : Z.N[i]? = some x) (hv : Vis Z.env.scope x)
    (hd : (x == ("__debug__" : Str)) = false := by decide) (hcd : (x == ("__classdict__" : Str)) = false := by decide) :
    PE Z (.Call (.Name x p) [] [] pos) (fun σ H Q => ∃ f, σ[i]? = some (some (.ref f)) ∧ H f = some (LamO f F) ∧ H F.c = some (CodeO F.c F.qual) ∧ sp ws [] H Q E) := by
  refine ⟨fun pins s σ H Q I h => ?_⟩
  obtain ⟨f, hs, h1, h2, q⟩ := h
  refine wpAny_Call_Name_kw (thn ((pe_var (pos := p) hN hv hd hcd).run pins s σ H (fun v H1 => v = .ref f ∧ H1 = H) I ⟨.ref f, hs, rfl, rfl⟩) fun u s1 ⟨v, H1, I1, r1, ev, eH⟩ => ?_)
  subst ev
  rw [eH] at I1
  obtain rfl : u = Value.ref f := r1
  exact PySem.W.callWith_F0 (first := []) (lamAt_of I1 h1) (run_l Fn hr hk hx I1 h1 h2 (cells_base C I1) .nil q)
end
end Hs
namespace Hs
open PySem PySem.Spec PyProof.Rows L2 LamX NdefX
/-! ### a call under a wider base: the caller's cells stand in it, so that they are known in every frame below -/
theorem env_more {X : Cx} {pins : List (Addr × Obj)} {σ : L2.St} {H : Hp} {s : Shared} (I : Inv X pins σ H s) (hfn : ∀ y, X.fn y = true) :
    ∃ base' : Heap, (∀ b o, X.base.get? b = some o → base'.get? b = some o) ∧ (∀ y c, X.env.cells.lookup y = some c → base'.get? c = s.heap.get? c) ∧ Env0 X.prog X.w X.K X.mg base' X.A X.stack s H := by
  have isC : ∀ y c, X.env.cells.lookup y = some c → c ∈ X.env.cells.map (·.2) := fun y c e => List.mem_map.mpr ⟨(y, c), PySem.mem_of_lookup e, rfl⟩
  let cs := (X.env.cells.filter fun q => X.env.cells.lookup q.1 == some q.2).map (·.2)
  have csC : ∀ c, c ∈ cs → ∃ y, X.env.cells.lookup y = some c := fun c hc => by
    obtain ⟨q, hq, e⟩ := List.mem_map.mp hc
    have z := (List.mem_filter.mp hq).2
    exact ⟨q.1, by rw [← e]; exact beq_iff_eq.mp z⟩
  have inC : ∀ y c, X.env.cells.lookup y = some c → c ∈ cs := fun y c e => List.mem_map.mpr ⟨(y, c), List.mem_filter.mpr ⟨PySem.mem_of_lookup e, by rw [beq_iff_eq]; exact e⟩, rfl⟩
  let l := (List.range s.heap.objs.size).filter fun b => (X.base.get? b).isNone && !(cs.contains b)
  have inL : ∀ b, b < s.heap.objs.size → X.base.get? b = none → b ∉ cs → b ∈ l := fun b h1 h2 h3 => by
    refine List.mem_filter.mpr ⟨List.mem_range.mpr h1, ?_⟩
    rw [h2]
    have h4 : cs.contains b = false := by
      cases q : cs.contains b with
      | false => rfl
      | true => exact absurd (List.contains_iff_mem.mp q) h3
    rw [h4] <;> rfl
  have outL : ∀ b, b ∈ l → X.base.get? b = none ∧ b ∉ cs := fun b hb => by
    have z := (List.mem_filter.mp hb).2
    obtain ⟨z1, z2⟩ := Bool.and_eq_true_iff.mp z
    refine ⟨Option.isNone_iff_eq_none.mp z1, fun q => ?_⟩
    rw [List.contains_iff_mem.mpr q] at z2
    cases z2
  have E0 := I.env0
  have up : ∀ b o, X.base.get? b = some o → (PySem.W.hideAll s.heap l).get? b = some o := fun b o e => PySem.W.hideAll_get l (E0.bs b o e).1 fun z => by
    rw [(outL b z).1] at e
    cases e
  refine ⟨PySem.W.hideAll s.heap l, up, fun y c e => ?_, E0.frames, ⟨E0.mod.kin.keeps up, E0.mod.glob.keeps up, ?_, E0.mod.nolimit.keeps up⟩, fun b o e => ?_, Nat.le_of_eq (PySem.W.hideAll_size _ _), ?_, E0.frf, E0.hok, E0.bare⟩
  · obtain ⟨v, o, ho, _⟩ := I.cell y c e
    rw [ho]
    exact PySem.W.hideAll_get l ho fun z => (outL c z).2 (inC y c e)
  · obtain ⟨mb, h1, h2⟩ := E0.mod.blt
    exact ⟨mb, h1.keeps up, h2⟩
  · have e1 := PySem.W.of_hideAll l e
    refine ⟨e1, ?_⟩
    by_cases hc : b ∈ cs
    · obtain ⟨y, hy⟩ := csC b hc
      exact I.freeC y b hy
    · cases hb : X.base.get? b with
      | some o' => exact (E0.bs b o' hb).2
      | none =>
        rw [PySem.W.hideAll_none l (inL b (Heap.lt_size e1) hb hc)] at e
        cases e
  · refine funFrames_none E0.funs fun L hL => ?_
    obtain ⟨hn, o, ho, _⟩ := E0.funs.mem hL
    refine PySem.W.hideAll_none l (inL L (Heap.lt_size ho) hn fun hc => ?_)
    obtain ⟨y, hy⟩ := csC L hc
    rcases List.mem_cons.mp (I.stkSub L hL) with z | z
    · exact I.cne y L hy z
    · obtain ⟨_, o2, ho2, _⟩ := I.ok.funs.mem z
      exact absurd (Nat.lt_of_lt_of_le (Heap.lt_size ho2) (I.ok.cab y L (hfn y) hy)) (Nat.lt_irrefl _)
/-- base' holds the running frame's cells, with what its names stand for -/
def Clo (X : Cx) (σ : L2.St) (base' : Heap) : Prop := ∀ (cl : List (Str × Addr)) (fr : List Str) (js : List Nat), (X.Ok → Caps X cl fr js) → CellsAt cl fr (js.map (slotAt σ)) base' fun _ => none
/-- an own def that gets functions which the running frame made -/
theorem pe_ownB {X : Cx} {k j : Nat} {x : Str} {ps : List Str} {sp : Heap → Sp} {e : Expr} {es : List Expr} {t : TA} {p pos : Pos} (O : ∀ base', (∀ b o, X.base.get? b = some o → base'.get? b = some o) → Own X.prog X.w X.K X.mg base' k x ps (sp base')) (hfn : ∀ y, X.fn y = true) (hr : Room j X.A) (hk : k ≤ j) (hg : Gl X x) (ha : PA X (e :: es) t)
    (hdb : (x == ("__debug__" : Str)) = false := by decide) (he : starEach (e :: es) X.env = (false, eval e X.env) :: starEach es X.env := by rfl) (hpl : (backTo pos (starEach es X.env)).any (·.1) = false := by rfl) :
    PE X (.Call (.Name x p) (e :: es) [] pos) (fun σ H Q => t σ H fun vs H1 => ∀ base', (∀ b o, X.base.get? b = some o → base'.get? b = some o) → Clo X σ base' → sp base' vs H1 Q C8.E0) := by
  obtain ⟨f, fd, _, m, kp, b⟩ := (O X.base fun _ _ z => z).ex
  refine ⟨fun pins s σ H Q I h => ?_⟩
  refine wpAny_Call_Name_kw (ld_glob I hg m ?_ hdb)
  refine PySem.W.callWith_K (h₀ := X.base) I.ok.mod.kin kp (thn (ha.run pos pins s σ H _ I h) fun us s1 ⟨vs, H1, I1, r, q⟩ => ⟨I1.kIn, ?_⟩) he hpl
  obtain ⟨base', up, cells, E1⟩ := env_more I1 hfn
  have q1 := q base' up fun cl fr js cp => cells_in (cells_of I1 (cp I1.ok)) fun y c e => cells y c ((cp I1.ok).sub y c e)
  obtain ⟨f', fd', F, m', kp', b'⟩ := (O base' up).ex
  have ef : f' = f := by
    rw [m] at m'
    cases m'
    rfl
  subst ef
  have hl : vs.length = ps.length := F.len _ _ _ _ q1
  refine wpAny_call (codeAny_mono (F.run X.A X.stack s1 H1 ⟨us, []⟩ us vs Q C8.E0 (hr.mono hk) E1 ?_ r q1) fun r s' hq => ?_)
  · have z := b' s1 us I1.kIn (by rw [List.append_nil, ← r.length, hl])
    rw [List.append_nil] at z
    exact z
  · cases r with
    | error er => exact (show False from hq).elim
    | ok fl =>
      cases fl with
      | ret u => exact I1.after hq
      | next => exact False.elim hq
      | brk => exact False.elim hq
      | cont => exact False.elim hq
/-- f is a function by a lambda whose cells stand in the base; tl: what its call does -/
def Act (P : Program) (w : World) (K : PySem.W.Frag) (mg : Str → Option Value) (base : Heap) (k : Nat) (q : Str) (H : Hp) (f : Addr) (tl : XK → Hp → VK → Prop) : Prop :=
  ∃ (F : LF) (fr : List Str) (ws : List (Option V)) (sp : List (Option V) → Sp), F.qual = q ∧ LOk P w K mg base (L2.CX P w) k F [] fr sp ∧ CellsAt F.cl fr ws base (fun _ => none) ∧ H f = some (LamO f F) ∧ H F.c = some (CodeO F.c F.qual) ∧ tl = fun E H' Q => H' f = some (LamO f F) ∧ sp ws [] H' Q E
/-- what the catcher promises of it -/
def spTried (P : Program) (w : World) (K : PySem.W.Frag) (mg : Str → Option Value) (base : Heap) (k : Nat) (q : Str) (cN cL cK cB cS cM cC : Addr) : Sp := fun vs H Q _ => ∃ (f : Addr) (tl : XK → Hp → VK → Prop), vs = [.ref f] ∧ Act P w K mg base k q H f tl ∧ TTr K cN cL cK cB cS cM cC tl H Q
theorem ok_tried {P : Program} {w : World} {K : PySem.W.Frag} {mg : Str → Option Value} {base : Heap} {g : Addr} {fd : FuncData} {k : Nat} {q : Str} {cN cL cK cB cS cM cC : Addr} (F : FnP K "_law_tried" sTried g fd) (ct : Cats mg cN cL cK cB cS cM cC) :
    FnOk P w K mg base CX0 (k + 1) g fd ["_law_act"] (spTried P w K mg base k q cN cL cK cB cS cM cC) := by
  obtain ⟨oc, od, dV, kV, doc, pm, an, cdv, ctt, osl, rfl, lk, hcd, _, _⟩ := F.ex
  refine ⟨fun vs H Q E h => ?_, fun A outer s H args us vs Q E hr e0 hb r hsp => ?_⟩
  · obtain ⟨f, tl, rfl, _⟩ := h
    rfl
  · obtain ⟨f, tl, rfl, ⟨F, fr, ws, sp, rfl, Fn, C, h1, h2, rfl⟩, hT⟩ := hsp
    refine LamX.run_ofS (N := ["_law_act", "e"]) (ps := ["_law_act"]) (us := us) (vs := [.ref f]) lk hcd scTried hr e0 hb r rfl fun hr' => ?_
    obtain ⟨t', ht', hq'⟩ := tried_gives (X := { cxOf CX0 P w K mg base [] "" (defScope sTried) g cdv A outer s H E with A := A, stack := outer }) (q := F.qual) (g := g) (cdg := cdv) ct f F.c s H Q (fun E H' Q => H' f = some (LamO f F) ∧ sp ws [] H' Q E)
      (fun W pn xe E p1 p2 tk hW => ⟨fun pins s1 σ H1 Q1 I1 h => (pe_callL0 (i := 0) (x := "_law_act") (E := E) Fn C hr' (Nat.le_refl _) (passes_call tk hW) rfl (.inl rfl)).run pins s1 σ H1 Q1 I1 ⟨f, h.1, h.2.2.1, h.2.1, h.2.2.2⟩⟩) h2 hT
    exact ⟨t', ht'.nox, hq'⟩
end Hs
namespace Hs
open PySem PySem.Spec PyProof.Rows L2 Evl LamX
/-- the catcher tells a new tuple of f, whatever is new -/
def Tells (P : Program) (w : World) (K : PySem.W.Frag) (mg : Str → Option Value) (base : Heap) (k : Nat) (q : Str) (cN cL cK cB cS cM cC : Addr) (H : Hp) (f : Addr) (xs : List V) : Prop :=
  ∀ H', Ex H H' → ∃ tl, Act P w K mg base k q H' f tl ∧ ∀ Q : VK, (∀ p H2, H' p = none → Ex H' H2 → H2 p = some (.tup xs) → Q (.ref p) H2) → TTr K cN cL cK cB cS cM cC tl H' Q
theorem Tells.ext {P : Program} {w : World} {K : PySem.W.Frag} {mg : Str → Option Value} {base : Heap} {k : Nat} {q : Str} {cN cL cK cB cS cM cC : Addr} {H H1 : Hp} {f : Addr} {xs : List V} (h : Tells P w K mg base k q cN cL cK cB cS cM cC H f xs) (e : Ex H H1) : Tells P w K mg base k q cN cL cK cB cS cM cC H1 f xs := fun H' e' => h H' (e.trans e')
/-- tuples that stand -/
def TupsO (H : Hp) (ps : List Addr) (outs : List (List V)) : Prop := ∀ (i : Nat) (p : Addr) (xs : List V), ps[i]? = some p → outs[i]? = some xs → H p = some (.tup xs)
def spAll (P : Program) (w : World) (K : PySem.W.Frag) (mg : Str → Option Value) (base : Heap) (k : Nat) (q : Str) (cN cL cK cB cS cM cC : Addr) : Sp := fun vs H Q _ => ∃ (a : Addr) (fs : List Addr) (outs : List (List V)), vs = [.ref a] ∧ SqL K H a (fs.map V.ref) ∧ fs.length = outs.length ∧ fs.length ≤ 1000 ∧
  (∀ (i : Nat) (f : Addr) (xs : List V), fs[i]? = some f → outs[i]? = some xs → Tells P w K mg base k q cN cL cK cB cS cM cC H f xs) ∧
  ∀ (p : Addr) (ps : List Addr) (H' : Hp), H p = none → Ex H H' → H' p = some (.lst (ps.map V.ref)) → ps.length = outs.length → TupsO H' ps outs → Q (.ref p) H'
section
variable {P : Program} {w : World} {K : PySem.W.Frag} {mg : Str → Option Value} {base : Heap} {f : Addr} {fd : FuncData} {k : Nat} {q : Str} {cN cL cK cB cS cM cC : Addr}
abbrev sAll : Stmt := top 108
theorem scAll : FnScope ["_law_acts", "_law_act"] ["_law_acts"] (defScope sAll) := ⟨rfl, rfl, rfl, by decide +kernel, rfl, by decide +kernel, by decide +kernel⟩
theorem ok_all (F : FnP K "_law_all_tried" sAll f fd) (O__law_tried : Own P w K mg base (k + 1) "_law_tried" ["_law_act"] (spTried P w K mg base k q cN cL cK cB cS cM cC)) : FnOk P w K mg base CX0 (k + 2) f fd ["_law_acts"] (spAll P w K mg base k q cN cL cK cB cS cM cC) := by
  have nd := scAll.nd
  refine F.ok scAll (fun vs H Q E h => ?_) (fun cdv A outer s H vs Q E hr h => ⟨_, PSs.nox (pss_one (ps_ret (pe_lc (own := [("_law_act", 1)]) rfl nd (pi_list (pv 0)) (blkOk_by (N := ["_law_acts", "_law_act"]) (sc := defScope (Hs.top 108)) (by decide +kernel)) (fun _ _ _ _ _ => (pg_name (i := 1) nd rfl (Or.inl rfl))) (fun _ _ _ _ _ => pts_nil) (fun _ _ _ _ _ => (Hs.pe_own O__law_tried hr (by first | decide | omega) (by rfl) (pa_cons (pv 1) pa_nil)))))), ?_⟩)
  · obtain ⟨a, fs, outs, rfl, _⟩ := h
    rfl
  · obtain ⟨a, fs, outs, rfl, hS, hl, hz, hT, kk⟩ := h
    refine ⟨_, rfl, a, rfl, ⟨_, hS⟩, fun D hD => ?_⟩
    refine lc_list (xs := fs.map V.ref) (fun i H' => Ex H H' ∧ ∃ ps : List Addr, H' D = some (.lst (ps.map V.ref)) ∧ ps.length = i ∧ TupsO H' ps outs) ⟨Ex.new hD, [], upd_same, rfl, fun i p xs h => by cases h⟩ (fun i H' _ p => ex_l p.1 hS) (fun i x H' hi p => ⟨rfl, ?_⟩) (fun H' p => ?_)
    · obtain ⟨e, ps, h1, h2, h3⟩ := p
      rw [List.getElem?_map] at hi
      obtain ⟨g, hg, rfl⟩ := Option.map_eq_some_iff.mp hi
      have hlt : i < fs.length := (List.getElem?_eq_some_iff.mp hg).1
      obtain ⟨xs, hxs⟩ : ∃ xs, outs[i]? = some xs := ⟨_, List.getElem?_eq_getElem (by omega)⟩
      obtain ⟨tl, ha, ht⟩ := hT i g xs hg hxs H' e
      refine ⟨_, rfl, g, tl, rfl, ha, ht _ fun r H2 hr2 e2 h4 => ⟨_, e2 _ _ h1, sz_lt (by rw [List.length_map]; omega), Ex.mut (e.trans e2) hD, ps ++ [r], by rw [upd_same, List.map_append] <;> rfl, by rw [List.length_append, h2] <;> rfl, fun j p ys hp hy => ?_⟩⟩
      have nD : ∀ p ys, H2 p = some (.tup ys) → p ≠ D := fun p ys z w => by
        rw [w, e2 _ _ h1] at z
        cases z
      by_cases hj : j < ps.length
      · rw [List.getElem?_append_left hj] at hp
        have z := e2 _ _ (h3 j p ys hp hy)
        rw [upd_ne (nD _ _ z)]
        exact z
      · rw [List.getElem?_append_right (by omega)] at hp
        have hj2 : j = i := by
          have : j - ps.length < 1 := (List.getElem?_eq_some_iff.mp hp).1
          omega
        subst hj2
        have e0 : j - ps.length = 0 := by omega
        rw [e0] at hp
        cases hp
        rw [hxs] at hy
        cases hy
        rw [upd_ne (nD _ _ h4)]
        exact h4
    · obtain ⟨e, ps, h1, h2, h3⟩ := p
      exact kk D ps H' hD e h1 (by rw [h2, List.length_map, hl]) h3
end
end Hs
namespace Hs
open PySem PySem.Spec PyProof.Rows L2 Evl
/-- an own def that may raise, by its promise; dvs: the defaults that fill up -/
structure OwnX (P : Program) (w : World) (K : PySem.W.Frag) (mg : Str → Option Value) (base : Heap) (k : Nat) (x : Str) (ps : List Str) (dvs : List V) (sp : Sp) : Prop where
  ex : ∃ (f : Addr) (fd : FuncData) (ds : List Value), FnOk P w K mg base (L2.CX P w) k f fd ps sp ∧ mg x = some (.ref f) ∧ PySem.W.keepIn K (.ref f) = true ∧ Vals dvs ds ∧ Binds K fd ps ds
/-- .. where what it raises is taken -/
theorem pe_ownT {X : Cx} {k j : Nat} {x : Str} {ps : List Str} {dvs : List V} {sp : Sp} {e : Expr} {es : List Expr} {t : TA} {p pos : Pos} {Ex : XK} (O : OwnX X.prog X.w X.K X.mg X.base k x ps dvs sp) (hr : Room j X.A) (hk : k ≤ j) (hg : Gl X x) (hx : Passes (L2.CX X.prog X.w) X Ex) (ha : PA X (e :: es) t)
    (hdb : (x == ("__debug__" : Str)) = false := by decide) (he : starEach (e :: es) X.env = (false, eval e X.env) :: starEach es X.env := by rfl) (hpl : (backTo pos (starEach es X.env)).any (·.1) = false := by rfl) :
    PE X (.Call (.Name x p) (e :: es) [] pos) (tCall sp dvs Ex t) := by
  obtain ⟨f, fd, ds, F, m, kp, d, b⟩ := O.ex
  exact pe_call F (hr.mono hk) hg m kp b d hx ha hdb he hpl
end Hs
namespace Hs
open PySem PySem.Spec PyProof.Rows L2 Evl
/-! ### the law -/
theorem tabs_but {T : List (Addr × Str)} {H H' : Hp} {b : Addr} {xs : List V} (t : LamX.Tabs T H) (hb : H b = some (.lst xs)) (k : But H H' b) : LamX.Tabs T H' := fun p hp => by
  obtain ⟨ps, h1, h2, h3⟩ := t p hp
  refine ⟨ps, k _ _ h1 (ne_of h1 hb (by intro z; cases z)), h2, fun pos cv hc => ?_⟩
  obtain ⟨c, e1, e2⟩ := h3 pos cv hc
  exact ⟨c, e1, k _ _ e2 (ne_of e2 hb (by intro z; unfold LamX.CodeO at z; cases z))⟩
theorem tabs_upd {T : List (Addr × Str)} {H : Hp} {b : Addr} {xs : List V} {o : HO} (t : LamX.Tabs T H) (hb : H b = some (.lst xs)) : LamX.Tabs T (upd H b o) := tabs_but t hb (But.upd But.refl)
end Hs
namespace Hs
open PySem PySem.Spec PyProof.Rows L2 Evl LamX NdefX
/-- an error flies out of f: the catcher tells its word -/
theorem tells_fly {P : Program} {w : World} {K : PySem.W.Frag} {mg : Str → Option Value} {base : Heap} {k : Nat} {q wd : Str} {cN cL cK cB cS cM cC C : Addr} {H : Hp} {f : Addr} {F : LF} {fr : List Str} {ws : List (Option V)} {sp : List (Option V) → Sp} (Fn : LOk P w K mg base (L2.CX P w) k F [] fr sp) (hC : CellsAt F.cl fr ws base fun _ => none) (hq : F.qual = q)
    (hf : H f = some (LamO f F)) (hc : H F.c = some (CodeO F.c F.qual)) (wc : Word K C cN cL cK cB cS cM cC) (hs : ∀ H' Q E, Ex H H' → (∀ d H2, Ex H' H2 → H' d = none → H2 d = some (.xd [("word", .str wd)]) → E (.ref C) (some d) H2) → sp ws [] H' Q E) : Tells P w K mg base k q cN cL cK cB cS cM cC H f [.str wd] := fun H' e =>
  ⟨_, ⟨F, fr, ws, sp, hq, Fn, hC, e _ _ hf, e _ _ hc, rfl⟩, fun Q kk => ⟨e _ _ hf, hs H' _ _ e fun d H2 e2 _ hd => ⟨C, d, _, wd, rfl, rfl, wc, hd, rfl, fun p hp => kk p _ (fresh_back e2 hp) (e2.trans (Ex.new hp)) upd_same⟩⟩⟩
end Hs
namespace Hs
/-! ### rows of counts (lists turned round: the last count first) -/
def rows1 (rs : List (List Int)) (c : Int) : List (List Int) := rs.flatMap fun r => (List.range c.toNat).map fun i : Nat => r ++ [(i : Int)]
def RR : List Int → List (List Int)
  | [] => [[]]
  | c :: l => rows1 (RR l) c
def PR : List Int → Int
  | [] => 1
  | c :: l => PR l * c
def Cnt (cs : List Int) : Prop := cs.length ≤ 5 ∧ ∀ c ∈ cs, 1 ≤ c ∧ c ≤ 6
theorem Cnt.rev {cs : List Int} (h : Cnt cs) : Cnt cs.reverse := ⟨by rw [List.length_reverse]; exact h.1, fun c hc => h.2 c (List.mem_reverse.mp hc)⟩
theorem take_rev {cs : List Int} {i : Nat} {c : Int} (h : cs[i]? = some c) : (cs.take (i + 1)).reverse = c :: (cs.take i).reverse := by
  rw [List.take_add_one, h, List.reverse_append] <;> rfl
theorem PR_bd : ∀ {l : List Int}, (∀ c ∈ l, 1 ≤ c ∧ c ≤ 6) → 1 ≤ PR l ∧ PR l ≤ 6 ^ l.length
  | [], _ => ⟨Int.le_refl _, Int.le_refl _⟩
  | c :: l, h => by
    obtain ⟨h1, h2⟩ := PR_bd (l := l) fun x hx => h x (List.mem_cons_of_mem _ hx)
    obtain ⟨c1, c2⟩ := h c (List.mem_cons_self ..)
    constructor
    · show 1 ≤ PR l * c
      have := Int.mul_le_mul h1 c1 (by omega) (by omega)
      omega
    · show PR l * c ≤ 6 ^ (l.length + 1)
      rw [Int.pow_succ]
      exact Int.mul_le_mul h2 c2 (by omega) (by omega)
theorem Cnt.take {cs : List Int} (h : Cnt cs) (i : Nat) : Cnt (cs.take i).reverse := by
  refine Cnt.rev ⟨?_, fun c hc => h.2 c (List.mem_of_mem_take hc)⟩
  rw [List.length_take]
  have := h.1
  omega
end Hs
namespace Hs
open PySem PySem.Spec PyProof.Rows L2 Evl
/-! ### lists or tuples; rows of choices -/
theorem ip_mul {X : Cx} : PIp X .Mult (fun x y H Q => ∃ i j, x = .int i ∧ y = .int j ∧ CMulW i j ∧ Q (.int (i * j)) H) := by
  intro pins s σ H x y v u Q I r1 r2 h
  obtain ⟨i, j, e1, e2, hc, q⟩ := h
  subst e1; subst e2
  obtain ⟨t, rfl⟩ := r1
  obtain ⟨t', rfl⟩ := r2
  exact imul_int ⟨.int _, H, I.tok _, ⟨_, rfl⟩, q⟩ hc.ok
def SqQ (K : PySem.W.Frag) (H : Hp) (a : Addr) (xs : List V) : Prop := SqL K H a xs ∨ SqT K H a xs
theorem SqQ.ext {K : PySem.W.Frag} {H H' : Hp} {a : Addr} {xs : List V} (h : SqQ K H a xs) (e : Ex H H') : SqQ K H' a xs := h.imp (fun h => ex_l e h) fun h => ex_t e h
def iSeq (K : PySem.W.Frag) (tl : TE) : TI := fun σ H R => iList K tl σ H R ∨ iTup K tl σ H R
theorem pi_seq {X : Cx} {tg l : Expr} {tl : TE} (hl : PE X l tl) : PI X tg l (iSeq X.K tl) := ⟨fun pins s σ H R I h => h.elim (fun h => (pi_list hl).run pins s σ H R I h) fun h => (pi_tup hl).run pins s σ H R I h⟩
section
variable {K : PySem.W.Frag} {D : Ends} {σ : L2.St} {H : Hp} {g : TG} {tu tz : TS}
theorem s_forQ {a : Addr} {xs : List V} {tl : TE} (h : Ev tl σ H (.ref a)) (hx : SqQ K H a xs) (Pv : Nat → L2.St → Hp → Prop) (h0 : ∀ H1, Ex H H1 → Pv 0 σ H1) (hl : ∀ i σ' H', Pv i σ' H' → Ex H H')
    (hs : ∀ i x σ' H', xs[i]? = some x → Pv i σ' H' → g x σ' H' fun σ2 H2 => tu { D with nx := Pv (i + 1), ct := Pv (i + 1), bk := D.nx } σ2 H2) (hd : ∀ σ' H', Pv xs.length σ' H' → D.nx σ' H') : tFor (iSeq K tl) g tu D σ H := by
  rcases hx with hx | hx
  · exact .inl (s_forL h hx Pv h0 (fun i σ' H' _ p => ex_l (hl i σ' H' p) hx) hs hd)
  · exact .inr (s_forT h hx Pv h0 (fun i σ' H' _ p => ex_t (hl i σ' H' p) hx) hs hd)
theorem q_forQ {a : Addr} {xs : List V} {tl : TE} (h : Ev tl σ H (.ref a)) (hx : SqQ K H a xs) (Pv : Nat → L2.St → Hp → Prop) (h0 : ∀ H1, Ex H H1 → Pv 0 σ H1) (hl : ∀ i σ' H', Pv i σ' H' → Ex H H')
    (hs : ∀ i x σ' H', xs[i]? = some x → Pv i σ' H' → g x σ' H' fun σ2 H2 => tu { D with nx := Pv (i + 1), ct := Pv (i + 1), bk := tz D } σ2 H2) (hd : ∀ σ' H', Pv xs.length σ' H' → tz D σ' H') : tSeq (tFor (iSeq K tl) g tu) tz D σ H := s_forQ (D := { D with nx := tz D }) h hx Pv h0 hl hs hd
end
def Flies (C : Addr) (wd : Str) (H : Hp) (E : XK) : Prop := ∀ d H', Ex H H' → H d = none → H' d = some (.xd [("word", .str wd)]) → E (.ref C) (some d) H'
theorem Flies.ext {C : Addr} {wd : Str} {H H1 : Hp} {E : XK} (h : Flies C wd H E) (e : Ex H H1) : Flies C wd H1 E := fun d H' e' n hd => h d H' (e.trans e') (fresh_back e n) hd
abbrev iv (cs : List Int) : List V := cs.map V.int
theorem iv_at {cs : List Int} {i : Nat} {x : V} (h : (iv cs)[i]? = some x) : ∃ c, x = .int c ∧ cs[i]? = some c := by
  rw [List.getElem?_map] at h
  obtain ⟨c, hc, rfl⟩ := Option.map_eq_some_iff.mp h
  exact ⟨c, rfl, hc⟩
section
variable {P : Program} {w : World} {K : PySem.W.Frag} {mg : Str → Option Value} {base : Heap} {f C : Addr} {fd : FuncData}
abbrev sMany : Stmt := top 52
theorem scMany : FnScope ["counts", "many", "count"] ["counts"] (defScope sMany) := ⟨rfl, rfl, rfl, by decide +kernel, rfl, by decide +kernel, by decide +kernel⟩
end
end Hs
namespace Hs
open PySem PySem.Spec PyProof.Rows L2
/-! ### {**d, k: v} -/
section
variable {prog : Program} {w : World} {K : Type} [DecidableEq K] {knd : KeyKind prog w K} {A : Around} {E : Value → Shared → Prop} {s : Shared}
theorem put_pairs {d : Addr} {kvs : List (K × Value)} {k : K} {key v : Value} {Q : Unit → Shared → Prop} (hkey : knd.is k key = true) (hm : s.heap.DictOf knd d kvs)
    (hQ : ∀ h', h'.DictOf knd d (stored kvs k v) → Heap.SameBut d s.heap h' → Q () { s with heap := h' }) (hsz : kvs.length ≤ sizeLine) :
    wpAny (model prog w) A (dictPut d (knd.hash k) key v) Q E s := by
  obtain ⟨o, es, ep, ho, hc, hd, hk, hp, hn⟩ := hm
  have hes : es.size ≤ sizeLine := by
    have e1 := hp.length
    have e2 : es.toList.length = es.size := by simp
    omega
  unfold dictPut
  refine wpAny_bind (wpAny_dictFind_of hkey ho hd hk ?_)
  have hidx : (es.findIdx? fun e => knd.is k e.key) = kvs.findIdx? fun kv => decide (kv.1 = k) := by
    rw [← hp.findIdx k]
    obtain ⟨l⟩ := es
    simp
  cases hi : es.findIdx? fun e => knd.is k e.key with
  | some i =>
    refine wpAny_updateDict ho hd (hQ _ ⟨_, _, ep, Heap.get?_update_self _ ho (Obj.isFreed_of_dict (Obj.data_mapDict hd _)), hc.mapDict _, Obj.data_mapDict hd _, hk.modify _ _, ?_, ?_⟩ (Heap.SameBut.update ..))
    · rw [stored, if_pos (any_of_findIdx_some (hidx ▸ hi))]
      have hl : (es.toList.findIdx? fun e => knd.is k e.key) = some i := by rw [← hi]; obtain ⟨l⟩ := es; simp
      have := hp.modify hn hl v
      obtain ⟨l⟩ := es
      simpa using this
    · rw [stored, if_pos (any_of_findIdx_some (hidx ▸ hi)), keys_map_store]
      exact hn
  | none =>
    have hnot : k ∉ kvs.map (·.1) := not_mem_of_findIdx_none (hidx ▸ hi)
    have hany : ¬ (kvs.any fun kv => decide (kv.1 = k)) = true := by
      rw [List.any_eq_true]
      rintro ⟨kv, hkv, he⟩
      exact hnot (List.mem_map.mpr ⟨kv, hkv, of_decide_eq_true he⟩)
    refine wpAny_updateDictKeys (hz := hes) ho hd (hQ _ ⟨_, _, ep + 1, Heap.get?_update_self _ ho (Obj.isFreed_of_dict (Obj.data_mapDictKeys hd _)), hc.mapDictKeys _, Obj.data_mapDictKeys hd _, hk.push hkey _, ?_, ?_⟩ (Heap.SameBut.update ..))
    · rw [stored, if_neg hany]
      have := hp.append hkey (knd.hash k) v
      obtain ⟨l⟩ := es
      simpa using this
    · rw [stored, if_neg hany, List.map_append, List.nodup_append]
      refine ⟨hn, by simp, ?_⟩
      intro a ha b hb
      simp only [List.map_cons, List.map_nil, List.mem_singleton] at hb
      subst hb
      exact fun e => hnot (e ▸ ha)
theorem merge_map {d o : Addr} {kvs more : List (K × Value)} {Q : Unit → Shared → Prop} (hdo : d ≠ o) (hoS : (o == sysModules) = false) (hd : s.heap.DictOf knd d kvs) (ho : s.heap.DictOf knd o more) (hnr : ∀ k key, knd.is k key = true → ∀ a, key ≠ .ref a)
    (hQ : ∀ h', h'.DictOf knd d (merged kvs more) → h'.DictOf knd o more → Heap.SameBut d s.heap h' → Q () { s with heap := h' }) (hsz : kvs.length + more.length ≤ sizeLine) :
    wpAny (model prog w) A (mergeMapping d (.ref o) false) Q E s := by
  obtain ⟨od, esd, epd, hod, hcd, hdd, hkd, hpd, hnd⟩ := id hd
  obtain ⟨oo, eso, epo, hoo, hco, hdo', hko, hpo, hno⟩ := id ho
  unfold mergeMapping
  refine wpAny_bind (wpAny_isInstance ho.typeIs isSubtype_dict_dict ?_)
  simp only [if_true]
  refine wpAny_bind (wpAny_specialOf ho.typeIs F.slot_dict_iter.lookup ?_)
  have hlen : more.length = eso.size := by rw [← hpo.length]; simp
  have loop : wpAny (model prog w) A (do
      let l ← dictEntries o
      let epoch ← dictEpoch o
      forIn (List.range l.size) PUnit.unit fun i (_ : PUnit) => (do
          let l' ← dictEntries o
          match l'[i]? with
            | some e => do
              holding [e.key, e.val] (dictPut d e.hash e.key e.val)
              let ep' ← dictEpoch o
              if (ep' != epoch) = true then do
                  (unsupported "dict.changed-during-merge" : Sem PUnit)
                  pure (ForInStep.yield PUnit.unit)
                else pure (ForInStep.yield PUnit.unit)
            | _ => do
              (unsupported "dict.changed-during-merge" : Sem PUnit)
              pure (ForInStep.yield PUnit.unit) : Sem (ForInStep PUnit))
      pure ()) Q E s := by
    refine wpAny_bind (wpAny_dictEntries hoo hdo' ?_)
    refine wpAny_bind (wpAny_dictEpoch hoo hdo' ?_)
    refine wpAny_bind ?_
    rw [List.range_eq_range']
    refine wpAny_forIn_list _
      (fun rest _ s' => ∃ h' i, s' = { s with heap := h' } ∧ rest = List.range' i (eso.size - i) ∧ i ≤ eso.size ∧ h'.DictOf knd d (merged kvs (more.take i)) ∧ h'.get? o = some oo ∧ Heap.SameBut d s.heap h')
      _ ?_ ?_ _ _ ⟨s.heap, 0, rfl, by simp, Nat.zero_le _, by simpa [merged] using hd, hoo, Heap.SameBut.refl _ _⟩
    · rintro x rest b s' ⟨h', i, rfl, hr, hi, hd', hoo', hs'⟩
      have hlt : i < eso.size := by
        rcases Nat.lt_or_ge i eso.size with h | h
        · exact h
        · rw [Nat.sub_eq_zero_of_le h] at hr; simp at hr
      obtain ⟨rfl, hrest⟩ : x = i ∧ rest = List.range' (i + 1) (eso.size - (i + 1)) := by
        have e : eso.size - i = (eso.size - (i + 1)) + 1 := by omega
        rw [e, List.range'_succ] at hr
        injection hr with h1 h2
        exact ⟨h1, h2⟩
      refine wpAny_bind (wpAny_dictEntries hoo' hdo' ?_)
      rw [Array.getElem?_eq_getElem hlt]
      obtain ⟨kv, hkv⟩ : ∃ kv, more[x]? = some kv := ⟨more[x]'(by rw [hlen]; exact hlt), List.getElem?_eq_getElem _⟩
      obtain ⟨k, v⟩ := kv
      obtain ⟨hkey, hval⟩ := hpo.get? (e := eso[x]) (by simp [hlt]) hkv
      obtain ⟨k', hkey', hhash⟩ := hko eso[x] (Array.getElem_mem hlt)
      obtain rfl : k' = k := knd.inj _ _ _ hkey' hkey
      show wpAny _ _ (holding [eso[x].key, eso[x].val] (dictPut d eso[x].hash eso[x].key eso[x].val) >>= _) _ _ _
      rw [hhash, hval]
      have hmx : (merged kvs (more.take x)).length ≤ sizeLine := by
        have e1 := merged_length_le kvs (more.take x)
        have e2 : (more.take x).length ≤ more.length := by rw [List.length_take]; omega
        omega
      refine wpAny_bind (wpAny_holding (put_pairs (hsz := hmx) hkey hd' fun h'' hd'' hs'' => ?_))
      have hoo'' : h''.get? o = some oo := (hs''.2 o (Ne.symm hdo)).trans hoo'
      refine wpAny_bind (wpAny_dictEpoch hoo'' hdo' ?_)
      rw [if_neg (by simp)]
      exact wpAny_pure ⟨h'', x + 1, rfl, hrest, hlt, by rw [merged_take_succ kvs more x (k', v) hkv]; exact hd'', hoo'', hs'.trans hs''⟩
    · rintro b s' ⟨h', i, rfl, hr, hi, hd', hoo', hs'⟩
      have hin : i = eso.size := by
        rcases Nat.lt_or_ge i eso.size with h | h
        · have e : eso.size - i = (eso.size - (i + 1)) + 1 := by omega
          rw [e, List.range'_succ] at hr; exact nomatch hr
        · exact Nat.le_antisymm hi h
      refine wpAny_pure (hQ h' ?_ ⟨oo, eso, epo, hoo', hco, hdo', hko, hpo, hno⟩ hs')
      rw [hin, ← hlen, List.take_length] at hd'; exact hd'
  refine wpAny_bind (wpAny_pure ?_)
  simp only [beq_self_eq_true]
  rw [if_neg (by rw [hoS]; exact Bool.false_ne_true)]
  refine wpAny_bind (wpAny_dictEntries hod hdd ?_)
  split
  · refine wpAny_bind (wpAny_dictEntries hoo hdo' ?_)
    refine wpAny_bind ?_
    rw [← Array.forIn_toList]
    refine wpAny_forIn_list _ (fun rest _ s' => s' = s ∧ ∀ e ∈ rest, e ∈ eso.toList) _ ?_ ?_ _ _ ⟨rfl, fun e he => he⟩
    · rintro e rest b s' ⟨rfl, hr⟩
      have he := hr e (List.mem_cons_self ..)
      obtain ⟨k', hkey', hhash⟩ := hko e (Array.mem_toList_iff.mp he)
      have hne := hnr _ _ hkey'
      split
      · rename_i a ha
        exact absurd ha (hne a)
      · exact wpAny_pure ⟨rfl, fun e he => hr e (List.mem_cons_of_mem _ he)⟩
    · rintro b s' ⟨rfl, _⟩
      exact loop
  · exact loop
end
end Hs
namespace Hs
open PySem PySem.Spec PyProof.Rows L2
section
variable {prog : Program} {w : World} {A : Around} {E : Value → Shared → Prop} {s : Shared}
/-- {**d, k: v}: what runs -/
theorem display_star {dt kt vt : Sem Value} {Q : Value → Shared → Prop}
    (h : wpAny (model prog w) A dt (fun m s1 => wpAny (model prog w) A (mergeMapping s.heap.objs.size m false) (fun _ s2 => wpAny (model prog w) A (subDict [(kt, vt)]) (fun q s3 => wpAny (model prog w) A (mergeMapping s.heap.objs.size (.ref q) false) (fun _ s4 => Q (.ref s.heap.objs.size) s4) (fun _ _ => False) s3) E s2) (fun _ _ => False) s1) E { s with heap := s.heap.push { cls := .type "dict", data := .dict #[] } }) :
    wpAny (model prog w) A (dictDisplay [(none, dt), (some kt, vt)]) Q E s := by
  unfold dictDisplay
  simp only [List.forIn_cons, List.forIn_nil, bind_assoc, pure_bind, List.isEmpty_nil, if_true, List.nil_append, List.length_cons, List.length_nil, List.isEmpty_cons]
  refine wpAny_bind (wpAny_alloc ?_)
  refine wpAny_bind (wpAny_holding (wpAny_mono h (fun m s1 h1 => ?_) fun _ _ e => e))
  refine wpAny_bind (wpAny_onRaise (wpAny_tryCatch (wpAny_onRaise (wpAny_holding (wpAny_mono h1 (fun _ s2 h2 => ?_) fun _ _ z => z.elim)))))
  rw [if_neg (by decide)]
  refine wpAny_bind (wpAny_pure ?_)
  refine wpAny_bind (wpAny_pure ?_)
  refine wpAny_bind ?_
  rw [if_neg (by simp)]
  refine wpAny_bind (wpAny_holding (wpAny_mono h2 (fun q s3 h3 => ?_) fun _ _ e => e))
  refine wpAny_bind (wpAny_onRaise (wpAny_holding (wpAny_mono h3 (fun _ s4 h4 => ?_) fun _ _ z => z.elim)))
  exact wpAny_pure (wpAny_pure h4)
end
/-- {**d, k: v}: the new dict p stands empty while d is read; q, that of the pair, stays behind -/
def tDStar (td tk tv : TE) : TE := fun σ H Q => ∀ p, H p = none → td σ (upd H p (.dK [])) fun x H1 => ∃ (a : Addr) (kvs : List (Key × V)), x = .ref a ∧ Rd H1 a (.dK kvs) ∧ H1 p = some (.dK []) ∧ a ≠ p ∧ kvs.length ≤ 10000 ∧
  ∀ q, upd H1 p (.dK kvs) q = none → tk σ (upd (upd H1 p (.dK kvs)) q (.dK [])) fun y H2 => tv σ H2 fun z H3 => ∃ key : Key, y = kV key ∧ H3 q = some (.dK []) ∧ H3 p = some (.dK kvs) ∧ p ≠ q ∧ Q (.ref p) (upd (upd H3 q (.dK [(key, z)])) p (.dK (putK kvs key z)))
theorem pe_dstar {X : Cx} {d k v : Expr} {td tk tv : TE} {pos : Pos} (hd : PE X d td) (hk : PE X k tk) (hv : PE X v tv) : PE X (.Dict [none, some k] [d, v] pos) (tDStar td tk tv) := by
  refine ⟨fun pins s σ H Q I h => ?_⟩
  have hn := I.hok.fresh (Nat.le_refl s.heap.objs.size)
  have I1 := I.laid (a := s.heap.objs.size) (o := .dK []) (h' := s.heap.push { cls := .type "dict", data := .dict #[] }) (t' := s.toks) (fun _ _ q => Heap.get?_push_of_some _ q) (Nat.le_refl _) (dk_empty s.heap I.big)
  have nr : ∀ (k : Key) (key : Value), (mixKind X.prog X.w).is k key = true → ∀ a, key ≠ .ref a := fun k key hk a e => by
    rcases keyIs_shape hk with ⟨i, t, rfl, rfl⟩ | ⟨x, t, rfl, rfl⟩ <;> cases e
  rw [arm_eval_Dict]
  refine wpAny_bind (wpAny_standAt ?_)
  show wpAny _ _ (dictDisplay [(none, do let x ← eval d X.env; standAt pos; pure x), (some (eval k X.env), do let x ← eval v X.env; standAt pos; pure x)]) _ _ _
  refine display_star (wpAny_bind (thn (hd.run pins _ σ _ _ I1 (h _ hn)) fun u s2 ⟨x, H1, I2, r1, a, kvs, ex, hr, hp, nap, hz, q1⟩ => wpAny_bind (wpAny_standAt (wpAny_pure ?_))))
  subst ex
  obtain rfl : u = Value.ref a := r1
  obtain ⟨z1, hda, vs1, rv1, dd1⟩ := dk_rd I2.hok hr
  obtain ⟨z2, hdp, vs2, rv2, dd2⟩ := dk_of I2.hok hp
  cases rv2
  have hnod : (vs1.map (·.1)).Nodup := by
    obtain ⟨_, _, _, _, _, _, _, _, hn⟩ := id dd1
    exact hn
  have lv1 : vs1.length = kvs.length := (KV.length rv1).symm
  have hsl : (10001 : Nat) ≤ sizeLine := by rw [sizeLine_eq]; decide
  refine merge_map (knd := mixKind X.prog X.w) (Ne.symm nap) hda dd2 dd1 nr (fun h1 dp da sb => ?_) (by rw [List.length_nil]; omega)
  rw [merged_nil_of_nodup vs1 hnod] at dp
  have I3 : Inv X pins σ (upd H1 s.heap.objs.size (.dK kvs)) { s2 with heap := h1 } := d_write I2 (by rw [hp]; exact True.intro) sb (let ⟨q, _, _, hq, _⟩ := dp; ⟨q, hq⟩) (dk_new z1 hdp rv1 dp)
  have hnq := I3.hok.fresh (Nat.le_refl h1.objs.size)
  have I4 := I3.laid (a := h1.objs.size) (o := .dK []) (h' := h1.push { cls := .type "dict", data := .dict #[] }) (t' := s2.toks) (fun _ _ q => Heap.get?_push_of_some _ q) (Nat.le_refl _) (dk_empty h1 I3.big)
  refine wpAny_subDict (knd := mixKind X.prog X.w) (by simp) (evalPairs_cons (thn (hk.run pins _ σ _ _ I4 (q1 _ hnq)) fun ku s3 ⟨y, H2, I5, r2, q2⟩ => wpAny_bind (thn (hv.run pins s3 σ H2 _ I5 q2) fun vu s4 ⟨z, H3, I6, r3, key, ey, hq3, hp3, npq, q3⟩ => wpAny_bind (wpAny_standAt (wpAny_pure (evalPairs_nil ?_))))))
  subst ey
  obtain ⟨z5, hdq, vs5, rv5, dd5⟩ := dk_of I6.hok hq3
  cases rv5
  refine ⟨[(key, vu)], ⟨kV_is r2, rfl, True.intro⟩, dd5, fun h2 dq sb2 => ?_⟩
  have I7 : Inv X pins σ (upd H3 h1.objs.size (.dK [(key, z)])) { s4 with heap := h2, toks := s4.toks + 1 } := d_write I6 (by rw [hq3]; exact True.intro) sb2 (let ⟨q, _, _, hq, _⟩ := dq; ⟨q, hq⟩) (dk_new (by simp; omega) hdq (.cons ⟨rfl, r3⟩ .nil) dq)
  have hp7 : upd H3 h1.objs.size (.dK [(key, z)]) s.heap.objs.size = some (.dK kvs) := by rw [upd_ne npq]; exact hp3
  obtain ⟨z7, hdp7, vs7, rv7, dd7⟩ := dk_of I7.hok hp7
  have lv7 : vs7.length = kvs.length := (KV.length rv7).symm
  refine merge_map (knd := mixKind X.prog X.w) npq hdq dd7 dq nr (fun h3 dp3 dq3 sb3 => ?_) (by simp only [merged, List.foldl_cons, List.foldl_nil, stored, List.any_nil]; simp; omega)
  refine ⟨.ref s.heap.objs.size, _, ?_, rfl, q3⟩
  exact d_write (t' := s4.toks + 1) I7 (by rw [hp7]; exact True.intro) sb3 (let ⟨q, _, _, hq, _⟩ := dp3; ⟨q, hq⟩) (dk_new (by have := length_putK kvs key z; omega) hdp7 (rv7.put key r3) dp3)
end Hs
namespace Hs
open PySem PySem.Spec PyProof.Rows L2
/-! ### x(e, .., *y), x a local name that holds one of several defs -/
structure HeldX (P : Program) (w : World) (K : PySem.W.Frag) (mg : Str → Option Value) (base : Heap) (k : Nat) (f : Addr) (sp : Sp) : Prop where
  ex : ∃ (fd : FuncData) (ps : List Str), FnOk P w K mg base (L2.CX P w) k f fd ps sp ∧ PySem.W.keepIn K (.ref f) = true ∧ Binds K fd ps []
def tCallAS (i : Nat) (S : Addr → Option Sp) (E : XK) (t : TA) : TE := fun σ H Q => ∃ f sp, σ[i]? = some (some (.ref f)) ∧ S f = some sp ∧ t σ H fun vs H1 => sp vs H1 Q E
theorem pe_callAS {X : Cx} {k j i : Nat} {x : Str} {E : XK} {e : Expr} {es : List Expr} {t : TA} {p pos : Pos} {S : Addr → Option Sp} (A : ∀ f sp, S f = some sp → HeldX X.prog X.w X.K X.mg X.base k f sp) (hr : Room j X.A) (hkj : k ≤ j) (hN : X.N[i]? = some x) (hv : Vis X.env.scope x) (hx : Passes (L2.CX X.prog X.w) X E) (ha : PA X (e :: es) t)
    (hdb : (x == ("__debug__" : Str)) = false := by decide) (hcd : (x == ("__classdict__" : Str)) = false := by decide)
    (he : starEach (e :: es) X.env = (false, eval e X.env) :: starEach es X.env := by rfl) (hst : (backTo pos (starEach es X.env)).any (·.1) = true := by rfl) : PE X (.Call (.Name x p) (e :: es) [] pos) (tCallAS i S E t) := by
  refine ⟨fun pins s σ H Q I h => ?_⟩
  obtain ⟨f, sp, hs, hS, ht⟩ := h
  obtain ⟨fd, ps, F, hk, hb⟩ := (A f sp hS).ex
  refine wpAny_Call_Name_kw (thn ((pe_var (pos := p) hN hv hdb hcd).run pins s σ H (fun v H1 => v = .ref f ∧ H1 = H) I ⟨.ref f, hs, rfl, rfl⟩) fun u s1 ⟨v, H1, I1, r1, q1⟩ => ?_)
  obtain ⟨rfl, rfl⟩ := q1
  cases r1
  refine PySem.W.callWith_S2 (h₀ := X.base) I.ok.mod.kin hk (thn (ha.run pos pins s1 σ _ _ I1 ht) fun us s2 ⟨vs, H2, I2, r, q⟩ => ⟨I2.kIn, ?_⟩) he hst
  refine run_fn F (hr.mono hkj) hb .nil hx I2 r ?_
  rw [List.append_nil]
  exact q
end Hs
namespace Hs
open PySem PySem.Spec PyProof.Rows L2
theorem un1 {k : Nat} {A : Around} (r : Room k A) : A.units + 1 < cLine := by
  have := r.un
  omega
/-! ### what is made and never changed again: known as it stands from its birth -/
def tFrz (t : TE) : TE := fun σ H Q => t σ H fun v H1 => ∃ d u, v = .ref d ∧ H1 d = some u ∧ Mut (some u) ∧ ∀ od, Q v (upd H1 d (.frz od u))
theorem pe_frz {X : Cx} {e : Expr} {t : TE} (h : PE X e t) : PE X e (tFrz t) := ⟨fun pins s σ H Q I q => thn (h.run pins s σ H _ I q) fun _ s1 ⟨x, H1, I1, r, d, u, ex, hd, mu, k⟩ => by
  obtain ⟨od, I2⟩ := I1.lock hd mu
  exact ⟨x, _, I2, r, k od⟩⟩
/-- a dict that stands so -/
def Fz (H : Hp) (a : Addr) (kvs : List (Key × V)) : Prop := ∃ od, H a = some (.frz od (.dK kvs))
theorem Fz.ext {H H' : Hp} {a : Addr} {kvs : List (Key × V)} (h : Fz H a kvs) (e : Evl.Ex H H') : Fz H' a kvs := let ⟨od, h⟩ := h; ⟨od, e _ _ h⟩
theorem Fz.rd {H : Hp} {a : Addr} {kvs : List (Key × V)} (h : Fz H a kvs) : Rd H a (.dK kvs) := .inr h
theorem Fz.get {H : Hp} {a : Addr} {kvs : List (Key × V)} (h : Fz H a kvs) {k : Key} : DGet H a (kV k) (valV kvs k) := .inl ⟨kvs, k, h.rd, rfl, rfl⟩
/-- {**d, k: v}, frozen at once -/
theorem eu_dstar {td tk tv : TE} {σ : L2.St} {H : Hp} {a : Addr} {kvs : List (Key × V)} {key : Key} {z : V} (h1 : Evl.Ev td σ H (.ref a)) (hk : Evl.Ev tk σ H (kV key)) (hv : Evl.Ev tv σ H z) (ha : Fz H a kvs) (hz : kvs.length ≤ 10000) :
    ∀ H1, Evl.Ex H H1 → ∀ Q : VK, (∀ p H2, H1 p = none → Evl.Ex H1 H2 → Fz H2 p (putK kvs key z) → Q (.ref p) H2) → tFrz (tDStar td tk tv) σ H1 Q := fun H1 e Q q => by
  intro p hp
  have x1 := Evl.Ex.new (o := .dK []) hp
  refine h1 _ (e.trans x1) _ fun H2 e2 => ⟨a, kvs, rfl, (ha.ext ((e.trans x1).trans e2)).rd, e2 _ _ upd_same, fun z => ?_, hz, fun q' hq' => ?_⟩
  · obtain ⟨od, ho⟩ := ha.ext e
    rw [z, hp] at ho
    cases ho
  · have ex2 : Evl.Ex H1 (upd H2 p (.dK kvs)) := Evl.Ex.mut (x1.trans e2) hp
    have xq := Evl.Ex.new (o := .dK []) hq'
    have npq : p ≠ q' := fun z => by
      rw [← z, upd_same] at hq'
      cases hq'
    refine hk _ ((e.trans ex2).trans xq) _ fun H3 e3 => hv _ (((e.trans ex2).trans xq).trans e3) _ fun H4 e4 => ⟨key, rfl, (e3.trans e4) _ _ upd_same, (e3.trans e4) _ _ (xq _ _ upd_same), npq, p, _, rfl, upd_same, True.intro, fun od => ?_⟩
    have e14 := ((ex2.trans xq).trans e3).trans e4
    have nq1 : H1 q' = none := Evl.fresh_back ex2 hq'
    refine q p _ hp ?_ ⟨od, upd_same⟩
    exact Evl.Ex.mut (Evl.Ex.mut (Evl.Ex.mut e14 nq1) hp) hp
/-- all but dicts in the making stays -/
def ExF (H H' : Hp) : Prop := ∀ b o, H b = some o → (∀ kvs, o ≠ .dK kvs) → H' b = some o
theorem Fz.extF {H H' : Hp} {a : Addr} {kvs : List (Key × V)} (h : Fz H a kvs) (e : ExF H H') : Fz H' a kvs := let ⟨od, h⟩ := h; ⟨od, e _ _ h (fun _ z => by cases z)⟩
/-- {**d, k: v}, v made on the way -/
theorem eu_dstarG {td tk tv : TE} {σ : L2.St} {H : Hp} {a : Addr} {kvs : List (Key × V)} {key : Key} {G : V → Hp → Prop} (h1 : Evl.Ev td σ H (.ref a)) (hk : Evl.Ev tk σ H (kV key)) (hv : ∀ H1, Evl.Ex H H1 → ∀ Q : VK, (∀ z H2, Evl.Ex H1 H2 → G z H2 → Q z H2) → tv σ H1 Q)
    (hG : ∀ z H2 H3, G z H2 → ExF H2 H3 → G z H3) (ha : Fz H a kvs) (hz : kvs.length ≤ 10000) :
    ∀ H1, Evl.Ex H H1 → ∀ Q : VK, (∀ p z H2, H1 p = none → Evl.Ex H1 H2 → G z H2 → Fz H2 p (putK kvs key z) → Q (.ref p) H2) → tFrz (tDStar td tk tv) σ H1 Q := fun H1 e Q q => by
  intro p hp
  have x1 := Evl.Ex.new (o := .dK []) hp
  refine h1 _ (e.trans x1) _ fun H2 e2 => ⟨a, kvs, rfl, (ha.ext ((e.trans x1).trans e2)).rd, e2 _ _ upd_same, fun z => ?_, hz, fun q' hq' => ?_⟩
  · obtain ⟨od, ho⟩ := ha.ext e
    rw [z, hp] at ho
    cases ho
  · have ex2 : Evl.Ex H1 (upd H2 p (.dK kvs)) := Evl.Ex.mut (x1.trans e2) hp
    have xq := Evl.Ex.new (o := .dK []) hq'
    have npq : p ≠ q' := fun z => by
      rw [← z, upd_same] at hq'
      cases hq'
    refine hk _ ((e.trans ex2).trans xq) _ fun H3 e3 => hv _ (((e.trans ex2).trans xq).trans e3) _ fun z H4 e4 g4 => ?_
    have hq4 := (e3.trans e4) q' _ (upd_same (H := upd H2 p (.dK kvs)) (a := q') (o := .dK []))
    have hp4 := (e3.trans e4) p _ (xq _ _ (upd_same (H := H2) (a := p) (o := .dK kvs)))
    refine ⟨key, rfl, hq4, hp4, npq, p, _, rfl, upd_same, True.intro, fun od => ?_⟩
    have e14 := ((ex2.trans xq).trans e3).trans e4
    have nq1 : H1 q' = none := Evl.fresh_back ex2 hq'
    refine q p z _ hp (Evl.Ex.mut (Evl.Ex.mut (Evl.Ex.mut e14 nq1) hp) hp) (hG z H4 _ g4 fun b o hb hn => ?_) ⟨od, upd_same⟩
    have nb : b ≠ p := fun w => by
      rw [w, hp4] at hb
      cases hb
      exact hn _ rfl
    have nq : b ≠ q' := fun w => by
      rw [w, hq4] at hb
      cases hb
      exact hn _ rfl
    rw [upd_ne nb, upd_ne nb, upd_ne nq]
    exact hb
end Hs
namespace Hs
open PySem PySem.Spec PyProof.Rows L2 Evl
/-! ### max of a tuple of numbers -/
def rMaxT (K : PySem.W.Frag) : List V → Hp → VK → Prop := fun vs H Q => ∃ (a : Addr) (ns : List Int), vs = [V.ref a] ∧ SqT K H a (ns.map V.int) ∧ 0 < ns.length ∧ ∀ m, m ∈ ns → (∀ y, y ∈ ns → y ≤ m) → Q (.int m) H
theorem maxOf_mem : ∀ (xs : List Int) (x : Int), PySem.W.maxOf x xs ∈ x :: xs ∧ ∀ y ∈ x :: xs, y ≤ PySem.W.maxOf x xs := by
  intro xs
  induction xs with
  | nil =>
    intro x
    exact ⟨List.mem_singleton.mpr rfl, fun y hy => by rw [List.mem_singleton.mp hy]; exact Int.le_refl _⟩
  | cons z zs ih =>
    intro x
    have e : PySem.W.maxOf x (z :: zs) = PySem.W.maxOf (if decide (x < z) = true then z else x) zs := rfl
    obtain ⟨h1, h2⟩ := ih (if decide (x < z) = true then z else x)
    rw [e]
    generalize PySem.W.maxOf (if decide (x < z) = true then z else x) zs = m at h1 h2 ⊢
    have h3 := h2 _ (List.mem_cons_self ..)
    refine ⟨?_, fun y hy => ?_⟩
    · rcases List.mem_cons.mp h1 with q | q
      · rw [q]
        split
        · exact List.mem_cons_of_mem _ (List.mem_cons_self ..)
        · exact List.mem_cons_self ..
      · exact List.mem_cons_of_mem _ (List.mem_cons_of_mem _ q)
    · have h4 : x ≤ m ∧ z ≤ m := by
        split at h3
        · rename_i q
          have := of_decide_eq_true q
          omega
        · rename_i q
          have : ¬ x < z := fun w => q (decide_eq_true w)
          omega
      rcases List.mem_cons.mp hy with q | q
      · rw [q]
        exact h4.1
      · rcases List.mem_cons.mp q with q | q
        · rw [q]
          exact h4.2
        · exact h2 y (List.mem_cons_of_mem _ q)
theorem cr_maxT {X : Cx} {k : Nat} (hc : X.calm = true) (hr : Room k X.A) : CallR X (.builtin "max") (rMaxT X.K) := by
  intro pins s σ H vs us Q I r h
  obtain ⟨a, ns, rfl, hs, hne, q⟩ := h
  obtain ⟨its, rv, hl, _⟩ := I.tuple hs
  rw [Vals.ref1 r]
  cases ns with
  | nil => cases hne
  | cons x xs =>
    refine PySem.W.max_tuple_datum (x := x) (xs := xs) (I.ok.hd hc) (show s.heap.IsTuple a its.toArray from hl) (by simpa using hold_ints rv) ?_ fun i v h' tk hv hh hk => ?_
    · have := hr.un
      show X.A.units + 1 + 0 < _
      omega
    · obtain ⟨t, rfl⟩ := PySem.W.int_of_holds hh
      obtain ⟨m1, m2⟩ := maxOf_mem xs x
      exact ⟨.int _, H, I.kept hk, ⟨_, rfl⟩, q _ m1 m2⟩
end Hs
namespace Hs
open PySem PySem.Spec PyProof.Rows L2 Evl
def rLenF : List V → Hp → VK → Prop := fun xs H Q => ∃ a kvs, xs = [V.ref a] ∧ Rd H a (.dK kvs) ∧ Q (.int (List.length (α := Key × V) kvs)) H
theorem call_lenF {X : Cx} : CallR X (.builtin "len") rLenF := by
  intro pins s σ H xs us Q I r h
  obtain ⟨a, kvs, rfl, hr, q⟩ := h
  obtain ⟨u, rfl, ru⟩ := vals1 r
  obtain rfl : u = Value.ref a := ru
  exact d_len I hr fun t s' I' => ⟨.int kvs.length, H, I', ⟨t, rfl⟩, q⟩
section
variable {K : PySem.W.Frag} {σ : L2.St} {H : Hp} {t : TT} {te : TE}
theorem el_lcT {a : Addr} {xs : List V} {tl : TE} {j : Nat} {vs : List Nat} (f : Nat → Bool) (v : Nat → V) (h : Ev tl σ H (.ref a)) (hx : SqT K H a xs) (hz : xs.length ≤ 40000) (hw : ∀ x, wipe ((wipe σ vs).set j (some x)) vs = wipe σ vs)
    (ht : ∀ (i : Nat) (x : V) H1, Ex H H1 → xs[i]? = some x → EvT t ((wipe σ vs).set j (some x)) H1 (f i)) (he : ∀ (i : Nat) (x : V) H1, Ex H H1 → xs[i]? = some x → f i = true → Ev te ((wipe σ vs).set j (some x)) H1 (v i)) :
    EvL (tLc (iTup K tl) (gName j) t te vs) σ H (given xs.length f v) := fun H0 e Q q => h H0 e _ fun H1 e1 => ⟨a, rfl, ⟨xs, ex_t (e.trans e1) hx⟩, fun Dl hD =>
  lc_tup (xs := xs) (Cw H1 f v Dl) ⟨hD, Ex.new hD, upd_same⟩ (fun i H' _ p => ex_t ((e.trans e1).trans p.2.1) hx) (fun i x H' hi p => ⟨hw x, cw_turn p (by have := (List.getElem?_eq_some_iff.mp hi).1; omega) (ht i x H1 (e.trans e1) hi) (fun hf => he i x H1 (e.trans e1) hi hf)⟩)
    (fun H' p => q Dl H' (fresh_back e1 p.1) (e1.trans p.2.1) p.2.2)⟩
theorem et_yes : EvT tYes σ H true := fun H1 _ _ q => q H1 (Ex.refl H1)
theorem ev_maxN {tl : TE} {ns : List Int} {m : Int} (h : EvL tl σ H (iv ns)) (m1 : m ∈ ns) (m2 : ∀ y ∈ ns, y ≤ m) : Ev (tCB (rMax K) (tCons tl tNil)) σ H (.int m) := fun H1 e Q q =>
  h H1 e _ fun p H2 _ e2 h2 => ⟨p, ns, rfl, sq_of h2, List.length_pos_of_mem m1, fun m' h1 h3 => by
    have : m' = m := Int.le_antisymm (m2 _ h1) (h3 _ m1)
    rw [this]
    exact q H2 e2⟩
end
def absI (i : Int) : Int := if i < 0 then -i else i
theorem given_abs {ns : List Int} : given (iv ns).length (fun _ => true) (fun i => V.int (absI (ns.getD i 0))) = iv (ns.map absI) := by
  unfold given
  rw [List.filter_eq_self.mpr fun _ _ => rfl]
  refine List.ext_getElem (by simp) fun i h1 h2 => ?_
  simp at h1
  simp [List.getD_eq_getElem?_getD, List.getElem?_eq_getElem h1]
def InFar (ns : List Int) : Prop := ∀ n ∈ ns, absI n ≤ 1000000
def spPlace (K : PySem.W.Frag) (C : Addr) : Sp := fun vs H Q E => ∃ (a : Addr) (ns : List Int), vs = [.ref a] ∧ SqT K H a (iv ns) ∧ 0 < ns.length ∧ ns.length ≤ 100 ∧ (¬ InFar ns → Flies C "badplace" H E) ∧ (InFar ns → RetV .non H Q)
/-- a new floor with one thing more -/
def RetWt (kvs ts : List (Key × V)) (so : Str) (n : Int) (v : V) (H : Hp) (Q : VK) : Prop := ∀ (p q : Addr) (H' : Hp), H p = none → Ex H H' → Fz H' q (putK ts (.inl n) v) → Fz H' p (putK kvs (.inr so) (.ref q)) → Q (.ref p) H'
def spWith : Sp := fun vs H Q _ => ∃ (a b : Addr) (so : Str) (n : Int) (v : V) (kvs ts : List (Key × V)), vs = [.ref a, .str so, .int n, v] ∧ Fz H a kvs ∧ valV kvs (.inr so) = some (.ref b) ∧ Fz H b ts ∧ kvs.length ≤ 10000 ∧ ts.length ≤ 10000 ∧ RetWt kvs ts so n v H Q
section
variable {P : Program} {w : World} {K : PySem.W.Frag} {mg : Str → Option Value} {base : Heap} {f C : Addr} {fd : FuncData}
abbrev sPlace : Stmt := top 48
theorem scPlace : FnScope ["place", "number"] ["place"] (defScope sPlace) := ⟨rfl, rfl, rfl, by decide +kernel, rfl, by decide +kernel, by decide +kernel⟩
theorem ok_place (F : FnP K "check_place" sPlace f fd) (Er_BadPlace : ErrF P w K mg base 1 "BadPlace" C "badplace") (g_max : mg "max" = none) (g_abs : mg "abs" = none) (g_FAR : ∃ u, mg "FAR" = some u ∧ RelV (.int 1000000) u) : FnOk P w K mg base (L2.CX P w) 3 f fd ["place"] (spPlace K C) := by
  have nd := scPlace.nd
  obtain ⟨uF, g_FAR⟩ := g_FAR
  refine F.ok scPlace (fun vs H Q E h => ?_) (fun cdv A outer s H vs Q E hr h => ⟨_, (pss_one (ps_if (pt_cmpR op_gt (pe_callB (r := rMax K) (cr_max rfl) (by rfl) g_max (by decide +kernel) (pa_cons (pe_lc (own := [("number", 1)]) rfl nd (pi_tup (pv 0)) (blkOk_by (N := ["place", "number"]) (sc := defScope (Hs.top 48)) (by decide +kernel)) (fun _ _ _ _ _ => (pg_name (i := 1) nd rfl (Or.inl rfl))) (fun _ _ _ _ _ => pts_nil) (fun _ _ _ _ _ => (pe_callB call_abs (by rfl) g_abs (by decide +kernel) (pa_cons (pv 1) pa_nil)))) pa_nil)) (pe_glob (by rfl) g_FAR.1 g_FAR.2) (nomark _)) (pss_one (ps_raise rfl (takes_of rfl rfl rfl rfl) (Hs.pmk_err Er_BadPlace hr (by decide) (by rfl)))) pss_nil)), ?_⟩)
  · obtain ⟨a, ns, rfl, _⟩ := h
    rfl
  · obtain ⟨a, ns, rfl, hS, h0, hz, kE, k⟩ := h
    obtain ⟨x, xs, hx⟩ : ∃ x xs, ns.map absI = x :: xs := by
      cases ns with
      | nil => cases h0
      | cons x xs => exact ⟨_, _, rfl⟩
    obtain ⟨m1, m2⟩ := maxOf_mem xs x
    rw [← hx] at m1 m2
    generalize PySem.W.maxOf x xs = m at m1 m2
    refine s_when (b := decide (1000000 < m)) (et_test (ev_op (ev_maxN (K := K) (ns := ns.map absI) ?l m1 m2) ev_c rv_I0)) (fun ht H1 e1 => ?_) (fun ht H1 e1 => ?_)
    case l =>
      rw [← given_abs]
      exact el_lcT _ _ (ev_var rfl) hS (by rw [List.length_map]; omega) (fun _ => rfl) (fun _ _ _ _ _ => et_yes) (fun i x H1 _ hx _ => by
        obtain ⟨c, rfl, hc⟩ := iv_at hx
        have e : ns.getD i 0 = c := by rw [List.getD_eq_getElem?_getD, hc] <;> rfl
        rw [e]
        exact fun H2 _ Q q => ⟨_, rfl, c, rfl, q H2 (Ex.refl H2)⟩)
    · refine (kE fun g => ?_).ext e1
      have := of_decide_eq_true ht
      obtain ⟨n, hn, rfl⟩ := List.mem_map.mp m1
      have := g n hn
      omega
    · refine k (fun n hn => ?_) H1 e1
      have h1 := of_decide_eq_false ht
      have h2 := m2 _ (List.mem_map.mpr ⟨n, hn, rfl⟩)
      omega
abbrev sWith : Stmt := top 69
theorem scWith : FnScope ["floor", "sort", "number", "thing"] ["floor", "sort", "number", "thing"] (defScope sWith) := ⟨rfl, rfl, rfl, by decide +kernel, rfl, by decide +kernel, by decide +kernel⟩
theorem ok_with (F : FnP K "with_thing" sWith f fd) : FnOk P w K mg base CX0 1 f fd ["floor", "sort", "number", "thing"] spWith := by
  have nd := scWith.nd
  refine F.ok scWith (fun vs H Q E h => ?_) (fun cdv A outer s H vs Q E hr h => ⟨_, PSs.nox (pss_one (ps_ret (Hs.pe_frz (Hs.pe_dstar (pv 0) (pv 1) (Hs.pe_frz (Hs.pe_dstar (pe_dget (Hs.un1 hr) (pv 0) (pv 1) (fun _ _ => rfl)) (pv 2) (pv 3))))))), ?_⟩)
  · obtain ⟨a, b, so, n, v, kvs, ts, rfl, _⟩ := h
    rfl
  · obtain ⟨a, b, so, n, v, kvs, ts, rfl, ha, hv, hb, l1, l2, k⟩ := h
    refine eu_dstarG (σ := [some (.ref a), some (.str so), some (.int n), some v]) (key := .inr so) (G := fun z H2 => ∃ q, z = .ref q ∧ Fz H2 q (putK ts (.inl n) v)) (ev_var rfl) (ev_var rfl) ?inn (fun z H2 H3 ⟨q, ez, hq⟩ e => ⟨q, ez, hq.extF e⟩) ha l1 H (Ex.refl H) _ fun p z H2 hp e2 ⟨q, ez, hq⟩ hz => ?_
    case inn =>
      intro H1 e1 Q' q'
      refine eu_dstar (key := .inl n) (H := H1) (σ := [some (.ref a), some (.str so), some (.int n), some v]) (a := b) (kvs := ts) (z := v) ?d (ev_var rfl) (ev_var rfl) (hb.ext e1) l2 H1 (Ex.refl H1) _ fun p H2 hp e2 h2 => q' _ H2 e2 ⟨p, rfl, h2⟩
      exact fun H2 e2 Q2 q2 => ⟨_, rfl, _, rfl, a, _, rfl, by have z := (ha.ext (e1.trans e2)).get (k := .inr so); rw [hv] at z; exact z, q2 H2 (Ex.refl H2)⟩
    · subst ez
      exact k p q H2 hp e2 hq hz
end
end Hs
namespace Hs
open PySem PySem.Spec PyProof.Rows L2 Evl
def InLit (most : Int) (ns : List Int) : Prop := ∀ n ∈ ns, 0 ≤ n ∧ n ≤ most
def spLightC (K : PySem.W.Frag) (C : Addr) : Sp := fun vs H Q E => ∃ (a : Addr) (most : Int) (ns : List Int), vs = [.ref a, .int most] ∧ SqT K H a (iv ns) ∧ 0 < ns.length ∧ (¬ InLit most ns → Flies C "badlight" H E) ∧ (InLit most ns → RetV .non H Q)
def spRoom (C : Addr) : Sp := fun vs H Q E => ∃ (a : Addr) (m : Int) (kvs : List (Key × V)), vs = [.ref a, .int m] ∧ Fz H a kvs ∧ ((kvs.length : Int) ≥ m → Flies C "full" H E) ∧ ((kvs.length : Int) < m → RetV .non H Q)
/-- a state: its floor, its looks, its coming numbers -/
structure StA (K : PySem.W.Frag) (H : Hp) (s fl lk cm : Addr) (kvs ls cs : List (Key × V)) : Prop where
  t : SqT K H s [.ref fl, .ref lk, .ref cm]
  f : Fz H fl kvs
  l : Fz H lk ls
  c : Fz H cm cs
theorem StA.ext {K : PySem.W.Frag} {H H' : Hp} {s fl lk cm : Addr} {kvs ls cs : List (Key × V)} (h : StA K H s fl lk cm kvs ls cs) (e : Ex H H') : StA K H' s fl lk cm kvs ls cs := ⟨ex_t e h.t, h.f.ext e, h.l.ext e, h.c.ext e⟩
/-- a new state and its number -/
def RetPt (kvs ts ls cs : List (Key × V)) (lk : Addr) (so : Str) (n : Int) (v : V) (K : PySem.W.Frag) (H : Hp) (Q : VK) : Prop := ∀ (r s' fl' q cm' : Addr) (H' : Hp), Ex H H' → H' r = some (.tup [.ref s', .int n]) → StA K H' s' fl' lk cm' (putK kvs (.inr so) (.ref q)) ls (putK cs (.inr so) (.int (n + 1))) → Fz H' q (putK ts (.inl n) v) → Q (.ref r) H'
def spPut (K : PySem.W.Frag) (C : Addr) : Sp := fun vs H Q E => ∃ (s fl lk cm b : Addr) (kvs ls cs ts : List (Key × V)) (so : Str) (n : Int) (v : V), vs = [.ref s, .str so, v] ∧ StA K H s fl lk cm kvs ls cs ∧ valV kvs (.inr so) = some (.ref b) ∧ Fz H b ts ∧ valV cs (.inr so) = some (.int n) ∧
  kvs.length ≤ 10000 ∧ ts.length ≤ 10000 ∧ cs.length ≤ 10000 ∧ (12 ≤ ts.length → Flies C "full" H E) ∧ (ts.length < 12 → RetPt kvs ts ls cs lk so n v K H Q)
section
variable {P : Program} {w : World} {K : PySem.W.Frag} {mg : Str → Option Value} {base : Heap} {f C : Addr} {fd : FuncData}
abbrev sLightC : Stmt := top 49
theorem scLightC : FnScope ["light", "most"] ["light", "most"] (defScope sLightC) := ⟨rfl, rfl, rfl, by decide +kernel, rfl, by decide +kernel, by decide +kernel⟩
theorem ok_lightC (F : FnP K "check_light" sLightC f fd) (Er_BadLight : ErrF P w K mg base 1 "BadLight" C "badlight") (g_max : mg "max" = none) (g_min : mg "min" = none) : FnOk P w K mg base (L2.CX P w) 3 f fd ["light", "most"] (spLightC K C) := by
  have nd := scLightC.nd
  refine F.ok scLightC (fun vs H Q E h => ?_) (fun cdv A outer s H vs Q E hr h => ⟨_, (pss_one (ps_if (PW.pt (pw_or (pt_cmpR op_lt (pe_callB (r := Hs.rMinT K) (Hs.cr_minT rfl hr) (by rfl) g_min (by decide +kernel) (pa_cons (pv 0) pa_nil)) pe_int (nomark _)) (pw_or1 (pt_cmpR op_gt (pe_callB (r := Hs.rMaxT K) (Hs.cr_maxT rfl hr) (by rfl) g_max (by decide +kernel) (pa_cons (pv 0) pa_nil)) (pv 1) (nomark _))))) (pss_one (ps_raise rfl (takes_of rfl rfl rfl rfl) (Hs.pmk_err Er_BadLight hr (by decide) (by rfl)))) pss_nil)), ?_⟩)
  · obtain ⟨a, m, ns, rfl, _⟩ := h
    rfl
  · obtain ⟨a, most, ns, rfl, hS, h0, kE, k⟩ := h
    obtain ⟨x, xs, rfl⟩ : ∃ x xs, ns = x :: xs := by
      cases ns with
      | nil => cases h0
      | cons x xs => exact ⟨_, _, rfl⟩
    obtain ⟨m1, m2⟩ := maxOf_mem xs x
    obtain ⟨l1, l2⟩ := minOf_mem xs x
    generalize PySem.W.maxOf x xs = m at m1 m2
    generalize PySem.W.minOf x xs = l at l1 l2
    have eL : Ev (tCB (rMinT K) (tCons (tVar 0) tNil)) [some (.ref a), some (.int most)] H (.int l) := fun H1 e Q q => ⟨_, rfl, a, _, rfl, ex_t e hS, h0, fun m' h1 h3 => by
      have : m' = l := Int.le_antisymm (h3 _ l1) (l2 _ h1)
      rw [this]
      exact q H1 (Ex.refl H1)⟩
    have eM : Ev (tCB (rMaxT K) (tCons (tVar 0) tNil)) [some (.ref a), some (.int most)] H (.int m) := fun H1 e Q q => ⟨_, rfl, a, _, rfl, ex_t e hS, h0, fun m' h1 h3 => by
      have : m' = m := Int.le_antisymm (m2 _ h1) (h3 _ m1)
      rw [this]
      exact q H1 (Ex.refl H1)⟩
    refine s_when (et_or (et_test (ev_op eL ev_c rv_I0)) fun _ => et_test (ev_op eM (ev_var rfl) rv_I0)) (fun ht H1 e1 => ?_) (fun ht H1 e1 => ?_)
    · refine (kE fun g => ?_).ext e1
      have g1 := g _ l1
      have g2 := g _ m1
      simp at ht
      omega
    · refine k (fun n hn => ?_) H1 e1
      have g1 := l2 n hn
      have g2 := m2 n hn
      simp at ht
      omega
abbrev sRoom : Stmt := top 79
theorem scRoom : FnScope ["rows", "most"] ["rows", "most"] (defScope sRoom) := ⟨rfl, rfl, rfl, by decide +kernel, rfl, by decide +kernel, by decide +kernel⟩
theorem ok_room (F : FnP K "check_room" sRoom f fd) (Er_Full : ErrF P w K mg base 1 "Full" C "full") (g_len : mg "len" = none) : FnOk P w K mg base (L2.CX P w) 3 f fd ["rows", "most"] (spRoom C) := by
  have nd := scRoom.nd
  refine F.ok scRoom (fun vs H Q E h => ?_) (fun cdv A outer s H vs Q E hr h => ⟨_, (pss_one (ps_if (pt_cmpR op_ge (pe_callB (r := Hs.rLenF) Hs.call_lenF (by rfl) g_len PySem.boot_len (pa_cons (pv 0) pa_nil)) (pv 1) (nomark _)) (pss_one (ps_raise rfl (takes_of rfl rfl rfl rfl) (Hs.pmk_err Er_Full hr (by decide) (by rfl)))) pss_nil)), ?_⟩)
  · obtain ⟨a, m, kvs, rfl, _⟩ := h
    rfl
  · obtain ⟨a, m, kvs, rfl, hF, kE, k⟩ := h
    have eN : Ev (tCB rLenF (tCons (tVar 0) tNil)) [some (.ref a), some (.int m)] H (.int (kvs.length : Int)) := fun H1 e Q q => ⟨_, rfl, a, kvs, rfl, (hF.ext e).rd, q H1 (Ex.refl H1)⟩
    refine s_when (et_test (ev_op eN (ev_var rfl) rv_I0)) (fun ht H1 e1 => ?_) (fun ht H1 e1 => ?_)
    · exact (kE (of_decide_eq_true ht)).ext e1
    · exact k (by have := of_decide_eq_false ht; omega) H1 e1
abbrev sPut : Stmt := top 80
theorem scPut : FnScope ["state", "sort", "thing", "floor", "looks", "coming", "number"] ["state", "sort", "thing"] (defScope sPut) := ⟨rfl, rfl, rfl, by decide +kernel, rfl, by decide +kernel, by decide +kernel⟩
theorem ok_put (F : FnP K "put" sPut f fd) (O_check_room : OwnX P w K mg base 3 "check_room" ["rows", "most"] [] (spRoom C)) (O_with_thing : Own P w K mg base 1 "with_thing" ["floor", "sort", "number", "thing"] spWith) (g_MOST_THINGS : ∃ u, mg "MOST_THINGS" = some u ∧ RelV (.int 12) u) : FnOk P w K mg base (L2.CX P w) 4 f fd ["state", "sort", "thing"] (spPut K C) := by
  have nd := scPut.nd
  obtain ⟨uM, g_MOST_THINGS⟩ := g_MOST_THINGS
  refine F.ok scPut (fun vs H Q E h => ?_) (fun cdv A outer s H vs Q E hr h => ⟨_, (pss_cons (ps_asg (pv 0) (pg_tup rfl (pgs_cons (pg_name (i := 3) nd rfl (.inl rfl)) (pgs_cons (pg_name (i := 4) nd rfl (.inl rfl)) (pgs_cons (pg_name (i := 5) nd rfl (.inl rfl)) pgs_nil)))))
  (pss_cons (ps_expr (Hs.pe_ownT O_check_room hr (by decide) (by rfl) (passes_call (takes_of rfl rfl rfl rfl) (fun _ _ _ _ h => h)) (pa_cons (pe_dget (Hs.un1 hr) (pv 3) (pv 1) (fun _ _ => rfl)) (pa_cons (pe_glob (by rfl) g_MOST_THINGS.1 g_MOST_THINGS.2) pa_nil))))
  (pss_cons (ps_set (i := 6) nd rfl (.inl rfl) (pe_dget (Hs.un1 hr) (pv 5) (pv 1) (fun _ _ => rfl)))
  (pss_one (ps_ret (pe_tup (pa_cons (pe_tup (pa_cons (Hs.pe_own O_with_thing hr (by first | decide | omega) (by rfl) (pa_cons (pv 3) (pa_cons (pv 1) (pa_cons (pv 6) (pa_cons (pv 2) pa_nil))))) (pa_cons (pv 4) (pa_cons (Hs.pe_frz (Hs.pe_dstar (pv 5) (pv 1) (pe_op op_add (pv 6) pe_int))) pa_nil)))) (pa_cons (pv 6) pa_nil)))))))), ?_⟩)
  · obtain ⟨s, fl, lk, cm, b, kvs, ls, cs, ts, so, n, v, rfl, _⟩ := h
    rfl
  · obtain ⟨s, fl, lk, cm, b, kvs, ls, cs, ts, so, n, v, rfl, S, hv, hb, hn, l1, l2, l3, kE, k⟩ := h
    refine ⟨_, rfl, s, _, rfl, S.t, rfl, _, _, rfl, _, _, rfl, _, _, rfl, rfl, ?_⟩
    dsimp only [gName, List.set]
    refine ⟨_, rfl, _, rfl, fl, _, rfl, by have z := S.f.get (k := .inr so); rw [hv] at z; exact z, b, 12, ts, rfl, hb, fun h => kE (by omega), fun h H1 e1 => ?_⟩
    have S1 := S.ext e1
    refine ⟨_, rfl, _, rfl, cm, _, rfl, by have z := S1.c.get (k := .inr so); rw [hn] at z; exact z, ?_⟩
    dsimp only [gName, List.set]
    refine ⟨_, rfl, _, rfl, _, rfl, _, rfl, fl, b, so, n, v, kvs, ts, rfl, S1.f, hv, hb.ext e1, l1, l2, fun p q H2 hp e2 hq hp2 => ⟨_, rfl, ?_⟩⟩
    refine eu_dstar (σ := [some (.ref s), some (.str so), some v, some (.ref fl), some (.ref lk), some (.ref cm), some (.int n)]) (key := .inr so) (z := .int (n + 1)) (ev_var rfl) (ev_var rfl) (ev_op (ev_var rfl) ev_c rv_I0) (S1.c.ext e2) l3 H2 (Ex.refl H2) _ fun p2 H3 hp3 e3 h3 => ⟨sz_of (by simp), fun s' hs' => ⟨_, rfl, sz_of (by simp), fun r hr' => ?_⟩⟩
    have x1 := Ex.new (o := .tup [V.ref p, .ref lk, .ref p2]) hs'
    have x2 := Ex.new (o := .tup [V.ref s', .int n]) hr'
    have e23 := (e3.trans x1).trans x2
    exact k (by omega) r s' p q p2 _ ((e1.trans e2).trans e23) upd_same ⟨st_of (x2 _ _ upd_same), hp2.ext e23, (S1.l.ext e2).ext e23, h3.ext (x1.trans x2)⟩ (hq.ext e23)
end
end Hs
namespace Hs
open PySem PySem.Spec PyProof.Rows L2 Evl
/-- the lamp of one choice at th -/
structure LampA (H : Hp) (th : Addr) (on : Bool) (c : List Int) : Prop where
  ex : ∃ ch c1, H th = some (.tup [.ref ch, .bl on]) ∧ H ch = some (.tup [.ref c1]) ∧ H c1 = some (.tup (iv c))
theorem LampA.ext {H H' : Hp} {th : Addr} {on : Bool} {c : List Int} (h : LampA H th on c) (e : Ex H H') : LampA H' th on c := by
  obtain ⟨ch, c1, h1, h2, h3⟩ := h.ex
  exact ⟨ch, c1, e _ _ h1, e _ _ h2, e _ _ h3⟩
def spDoLamp (K : PySem.W.Frag) (cP cL cF : Addr) : Sp := fun vs H Q E => ∃ (s fl lk cm b : Addr) (kvs ls cs ts : List (Key × V)) (n x y r g u : Int), vs = [.ref s, .int x, .int y, .int r, .int g, .int u] ∧ StA K H s fl lk cm kvs ls cs ∧ valV kvs (.inr "lamp") = some (.ref b) ∧ Fz H b ts ∧ valV cs (.inr "lamp") = some (.int n) ∧
  kvs.length ≤ 10000 ∧ ts.length ≤ 10000 ∧ cs.length ≤ 10000 ∧ (¬ InFar [x, y] → Flies cP "badplace" H E) ∧ (InFar [x, y] → ¬ InLit 1000000 [r, g, u] → Flies cL "badlight" H E) ∧ (InFar [x, y] → InLit 1000000 [r, g, u] → 12 ≤ ts.length → Flies cF "full" H E) ∧
  (InFar [x, y] → InLit 1000000 [r, g, u] → ts.length < 12 → ∀ (th : Addr) (H1 : Hp), Ex H H1 → LampA H1 th true [x, y, r, g, u] → RetPt kvs ts ls cs lk "lamp" n (.ref th) K H1 Q)
section
variable {P : Program} {w : World} {K : PySem.W.Frag} {mg : Str → Option Value} {base : Heap} {f cP cL cF : Addr} {fd : FuncData}
abbrev sDoLamp : Stmt := top 81
theorem scDoLamp : FnScope ["state", "across", "up", "red", "green", "blue"] ["state", "across", "up", "red", "green", "blue"] (defScope sDoLamp) := ⟨rfl, rfl, rfl, by decide +kernel, rfl, by decide +kernel, by decide +kernel⟩
theorem ok_doLamp (F : FnP K "do_lamp" sDoLamp f fd) (O_check_place : OwnX P w K mg base 3 "check_place" ["place"] [] (spPlace K cP)) (O_check_light : OwnX P w K mg base 3 "check_light" ["light", "most"] [] (spLightC K cL)) (O_put : OwnX P w K mg base 4 "put" ["state", "sort", "thing"] [] (spPut K cF)) (g_BRIGHT : ∃ u, mg "BRIGHT" = some u ∧ RelV (.int 1000000) u) : FnOk P w K mg base (L2.CX P w) 5 f fd ["state", "across", "up", "red", "green", "blue"] (spDoLamp K cP cL cF) := by
  have nd := scDoLamp.nd
  obtain ⟨uM, g_BRIGHT⟩ := g_BRIGHT
  refine F.ok scDoLamp (fun vs H Q E h => ?_) (fun cdv A outer s H vs Q E hr h => ⟨_, (pss_cons (ps_expr (Hs.pe_ownT O_check_place hr (by decide) (by rfl) (passes_call (takes_of rfl rfl rfl rfl) (fun _ _ _ _ h => h)) (pa_cons (pe_tup (pa_cons (pv 1) (pa_cons (pv 2) pa_nil))) pa_nil)))
  (pss_cons (ps_expr (Hs.pe_ownT O_check_light hr (by decide) (by rfl) (passes_call (takes_of rfl rfl rfl rfl) (fun _ _ _ _ h => h)) (pa_cons (pe_tup (pa_cons (pv 3) (pa_cons (pv 4) (pa_cons (pv 5) pa_nil)))) (pa_cons (pe_glob (by rfl) g_BRIGHT.1 g_BRIGHT.2) pa_nil))))
  (pss_one (ps_ret (Hs.pe_ownT O_put hr (by decide) (by rfl) (passes_call (takes_of rfl rfl rfl rfl) (fun _ _ _ _ h => h)) (pa_cons (pv 0) (pa_cons pe_str (pa_cons (pe_tup (pa_cons (pe_tup (pa_cons (pe_tup (pa_cons (pv 1) (pa_cons (pv 2) (pa_cons (pv 3) (pa_cons (pv 4) (pa_cons (pv 5) pa_nil)))))) pa_nil)) (pa_cons pe_bl pa_nil))) pa_nil)))))))), ?_⟩)
  · obtain ⟨s, fl, lk, cm, b, kvs, ls, cs, ts, n, x, y, r, g, u, rfl, _⟩ := h
    rfl
  · obtain ⟨s, fl, lk, cm, b, kvs, ls, cs, ts, n, x, y, r, g, u, rfl, S, hv, hb, hn, l1, l2, l3, kP, kL, kF, k⟩ := h
    refine ⟨_, rfl, _, rfl, sz_of (by simp), fun t1 ht1 => ⟨t1, [x, y], rfl, st_of upd_same, by simp, by simp, fun h => (kP h).ext (Ex.new ht1), fun hF H1 e1 => ?_⟩⟩
    have e01 := (Ex.new (o := .tup [V.int x, .int y]) ht1).trans e1
    refine ⟨_, rfl, _, rfl, _, rfl, sz_of (by simp), fun t2 ht2 => ⟨t2, 1000000, [r, g, u], rfl, st_of upd_same, by simp, fun h => (kL hF h).ext (e01.trans (Ex.new ht2)), fun hL H2 e2 => ?_⟩⟩
    have e02 := (e01.trans (Ex.new (o := .tup [V.int r, .int g, .int u]) ht2)).trans e2
    refine ⟨_, rfl, _, rfl, _, rfl, _, rfl, _, rfl, _, rfl, sz_of (by simp), fun c1 hc1 => ⟨sz_of (by simp), fun ch hch => ⟨sz_of (by simp), fun th hth => ?_⟩⟩⟩
    have x1 := Ex.new (o := .tup (iv [x, y, r, g, u])) hc1
    have x2 := Ex.new (o := .tup [V.ref c1]) hch
    have x3 := Ex.new (o := .tup [V.ref ch, .bl true]) hth
    have e05 := e02.trans ((x1.trans x2).trans x3)
    refine ⟨s, fl, lk, cm, b, kvs, ls, cs, ts, "lamp", n, .ref th, rfl, S.ext e05, hv, hb.ext e05, hn, l1, l2, l3, fun h => (kF hF hL h).ext e05, fun h => k hF hL h th _ e05 ⟨ch, c1, upd_same, x3 _ _ upd_same, (x2.trans x3) _ _ upd_same⟩⟩
end
end Hs
namespace Hs
open PySem PySem.Spec PyProof.Rows L2 Evl
def sortsV : List V := [.str "lamp", .str "post", .str "pane"]
end Hs
namespace Hs
open PySem PySem.Spec PyProof.Rows L2 Evl
/-- d[z], d a dict of the written part with texts as keys -/
def tKdGet (K : PySem.W.Frag) (d : Addr) (td ty : TE) : TE := fun σ H Q => td σ H fun x H1 => ty σ H1 fun y H2 => ∃ (z : Str) (u0 : Value) (v0 : V), x = .ref d ∧ y = .str z ∧ PySem.W.nsIn K d z = some (some u0) ∧ RelV v0 u0 ∧ Q v0 H2
theorem pe_kdget {X : Cx} {d : Addr} {es : Array DictEntry} {n : Nat} {o i : Expr} {pos : Pos} {td ty : TE} (D : KDict X.K X.w d es n) (ho : PE X o td) (hi : PE X i ty) (hs : NoSl i) : PE X (.Subscript o i pos) (tKdGet X.K d td ty) := by
  refine ⟨fun pins s σ H Q I h => ?_⟩
  refine subD_of PySem.F.slot_dict_getitem.lookup hs (thn (ho.run pins s σ H _ I h) fun u s1 ⟨x, H1, I1, rx, q1⟩ => thn (hi.run pins s1 σ H1 _ I1 q1) fun iv s2 ⟨y, H2, I2, ry, z, u0, v0, ex, ey, e, r, q2⟩ => ?_)
  subst ex
  obtain rfl : u = Value.ref d := rx
  exact ⟨kd_type D I2, op_item_kd D pins s2 σ H2 (.ref d) y (.ref d) iv Q I2 rfl ry ⟨z, u0, v0, rfl, ey, e, r, q2⟩⟩
/-! ### a deed done: by its word, the doer's promise S -/
def spApplied (K : PySem.W.Frag) (dF dD : Addr) (S : Addr → Option Sp) : Sp := fun vs H Q E => ∃ (s d f : Addr) (wd fm : Str) (tk : Tok) (args : List V) (sp : Sp), vs = [.ref s, .ref d] ∧ SqT K H d (.str wd :: args) ∧ PySem.W.nsIn K dF wd = some (some (.str fm tk)) ∧ fm.length = args.length ∧ args.length ≤ 100 ∧
  PySem.W.nsIn K dD wd = some (some (.ref f)) ∧ S f = some sp ∧ ∀ H', Ex H H' → sp (.ref s :: args) H' Q E
section
variable {P : Program} {w : World} {K : PySem.W.Frag} {mg : Str → Option Value} {base : Heap} {f dF dD : Addr} {fd : FuncData} {esF esD : Array DictEntry} {nF nD : Nat} {S : Addr → Option Sp}
abbrev sApplied : Stmt := top 94
theorem scApplied : FnScope ["state", "deed", "doer", "things"] ["state", "deed"] (defScope sApplied) := ⟨rfl, rfl, rfl, by decide +kernel, rfl, by decide +kernel, by decide +kernel⟩
theorem ok_applied (F : FnP K "applied" sApplied f fd) (DF : KDict K w dF esF nF) (DD : KDict K w dD esD nD) (HS : ∀ f sp, S f = some sp → HeldX P w K mg base 5 f sp) (g_len : mg "len" = none) (g_FORMS : mg "FORMS" = some (.ref dF) ∧ RelV (.ref dF) (.ref dF)) (g_DOERS : mg "DOERS" = some (.ref dD) ∧ RelV (.ref dD) (.ref dD)) :
    FnOk P w K mg base (L2.CX P w) 6 f fd ["state", "deed"] (spApplied K dF dD S) := by
  have nd := scApplied.nd
  refine F.ok scApplied (fun vs H Q E h => ?_) (fun cdv A outer s H vs Q E hr h => ⟨_, (pss_cons (ps_if (PW.pt (pw_or (pt_cmpR op_eq (pe_callB (r := Evl.rLenS K) call_len_seq (by rfl) g_len PySem.boot_len (pa_cons (pv 1) pa_nil)) pe_int (nomark _)) (pw_or (pt_cmpR (op_notIn_kd DF) (pe_ix (r := rIxT K) ix_tup (pv 1) pe_int (fun _ _ => rfl)) (pe_glob (by rfl) g_FORMS.1 g_FORMS.2) (by rfl)) (pw_or1 (pt_cmpR op_ne (pe_callB (r := Evl.rLenS K) call_len_seq (by rfl) g_len PySem.boot_len (pa_cons (pv 1) pa_nil)) (pe_op op_add pe_int (pe_callB call_len_str (by rfl) g_len PySem.boot_len (pa_cons (Hs.pe_kdget DF (pe_glob (by rfl) g_FORMS.1 g_FORMS.2) (pe_ix (r := rIxT K) ix_tup (pv 1) pe_int (fun _ _ => rfl)) (fun _ _ => rfl)) pa_nil))) (nomark _)))))) (pss_one ps_never) pss_nil)
  (pss_cons (ps_set (i := 2) nd rfl (.inl rfl) (Hs.pe_kdget DD (pe_glob (by rfl) g_DOERS.1 g_DOERS.2) (pe_ix (r := rIxT K) ix_tup (pv 1) pe_int (fun _ _ => rfl)) (fun _ _ => rfl)))
  (pss_cons (ps_set (i := 3) nd rfl (.inl rfl) (pe_slice sl_tupA (pv 1) (po_some pe_int) po_none))
  (pss_one (ps_ret (Hs.pe_callAS (i := 2) (E := E) HS hr (by decide) rfl (.inl rfl) (passes_call (takes_of rfl rfl rfl rfl) (fun _ _ _ _ h => h)) (pa_cons (pv 0) (StX.pa_star (pv 3) pa_nil)))))))), ?_⟩)
  · obtain ⟨s, d, f, wd, fm, tk, args, sp, rfl, _⟩ := h
    rfl
  · obtain ⟨s, d, f, wd, fm, tk, args, sp, rfl, hd, hF, hl, hz, hD, hS, k⟩ := h
    have hz2 : fm.length ≤ sizeLine := by
      rw [hl, sizeLine_eq]
      omega
    have at0 : atI (.str wd :: args) 0 = some (V.str wd) := atI_nat (xs := .str wd :: args) (j := 0) rfl
    refine q_when (b := false) (fun H1 e1 Q' q => ?_) (fun ht => Bool.noConfusion ht) (fun _ H1 e1 => ?_)
    · have hd1 := ex_t e1 hd
      refine ⟨_, rfl, d, _, rfl, .inr hd1, rfl, false, ?_, ?_⟩
      · rw [decide_eq_false (fun z => by injection z with z; rw [List.length_cons] at z; omega)]
      · refine ite_F rfl ⟨_, rfl, d, _, _, _, rfl, rfl, hd1, at0, wd, _, rfl, rfl, hF, false, rfl, ite_F rfl ?_⟩
        refine ⟨_, rfl, d, _, rfl, .inr hd1, _, rfl, d, _, _, _, rfl, rfl, hd1, at0, wd, _, .str fm, rfl, rfl, hF, ⟨tk, rfl⟩, fm, rfl, hz2, _, _, rfl, rfl, rfl, false, ?_, q H1 (Ex.refl H1)⟩
        rw [hl, List.length_cons]
        simp
        omega
    · have hd1 := ex_t e1 hd
      refine ⟨_, rfl, d, _, _, _, rfl, rfl, hd1, at0, wd, _, .ref f, rfl, rfl, hD, rfl, ?_⟩
      dsimp only [gName, List.set]
      have s1 : HT.sIx (V.str wd :: args).length 0 (some 1) = 1 := by
        have z := HT.sIx_nat (V.str wd :: args).length 0 1
        rw [List.length_cons] at z ⊢
        rw [show ((1 : Nat) : Int) = 1 from rfl] at z
        rw [z]
        omega
      have s2 : cutV (V.str wd :: args) (some 1) none = args := by
        unfold cutV
        rw [s1, HT.sIx_none]
        simp
      refine ⟨_, rfl, 1, rfl, d, _, rfl, hd1, fun hw => ?_, fun _ th hth => ?_⟩
      · have z := hw.1
        rw [s1] at z
        cases z
      · rw [s2]
        refine ⟨f, sp, rfl, hS, _, rfl, _, rfl, th, args, rfl, .inl (st_of upd_same), ?_⟩
        show sp (V.ref s :: (args ++ [])) (upd H1 th (.tup args)) Q E
        rw [List.append_nil]
        exact k _ (e1.trans (Ex.new hth))
end
end Hs
namespace Hs
open PySem PySem.Spec PyProof.Rows L2 Evl
/-! ### the house -/
/-- what the house is told a deed by: spA, what applied promises -/
def spDo (C : Addr) (spA : Sp) : Sp := fun vs H Q E => ∃ (h d dx s p q : Addr) (fs : List (Str × V)) (ps qs : List V), vs = [.ref h, .ref d] ∧ H h = some (.ins C dx fs) ∧ fs.lookup ("state" : Str) = some (.ref s) ∧ fs.lookup ("past" : Str) = some (.ref p) ∧ fs.lookup ("ahead" : Str) = some (.ref q) ∧ H p = some (.lst ps) ∧ H q = some (.lst qs) ∧ p ≠ q ∧ ps.length ≤ 1000 ∧ fs.length < 1000 ∧
  ∀ Q' : VK, (∀ (r : Addr) (s' told : V) (H1 : Hp), H1 r = some (.tup [s', told]) → H1 h = some (.ins C dx fs) → H1 p = some (.lst ps) → H1 q = some (.lst qs) →
    (∀ t, H1 t = none → Q told (upd (upd (upd (upd H1 t (.tup [.ref d, .ref s])) p (.lst (ps ++ [.ref t]))) q (.lst [])) h (.ins C dx (putF "state" s' fs)))) → Q' (.ref r) H1) → spA [.ref s, .ref d] H Q' E
/-- the class House, as it stands -/
structure HouseC (K : PySem.W.Frag) (C : Addr) : Prop where
  c : Cls K C
  s : NoAttr K C "state"
  p : NoAttr K C "past"
  a : NoAttr K C "ahead"
  t : NoAttr K C "trying"
section
variable {P : Program} {w : World} {K : PySem.W.Frag} {mg : Str → Option Value} {base : Heap} {f C : Addr} {fd : FuncData} {spA : Sp}
abbrev sDo : Stmt := (inClass (Hs.top 103) 1)
theorem scDo : FnScope ["self", "deed", "state", "told"] ["self", "deed"] (defScope sDo) := ⟨rfl, rfl, rfl, by decide +kernel, rfl, by decide +kernel, by decide +kernel⟩
theorem ok_do (F : FunD K "do" "House.do" (defArgs sDo) (defBody sDo) (defScope sDo) [] [] f fd) (hC : HouseC K C) (O_applied : OwnX P w K mg base 6 "applied" ["state", "deed"] [] spA) : FnOk P w K mg base (L2.CX P w) 7 f fd ["self", "deed"] (spDo C spA) := by
  have nd := scDo.nd
  refine F.ok scDo (fun vs H Q E h => ?_) (fun cdv A outer s H vs Q E hr h => ⟨_, (pss_cons (ps_asg (Hs.pe_ownT O_applied hr (by decide) (by rfl) (passes_call (takes_of rfl rfl rfl rfl) (fun _ _ _ _ h => h)) (pa_cons (pe_fld (pv 0) (by rfl)) (pa_cons (pv 1) pa_nil))) (pg_tup rfl (pgs_cons (pg_name (i := 2) nd rfl (.inl rfl)) (pgs_cons (pg_name (i := 3) nd rfl (.inl rfl)) pgs_nil))))
  (pss_cons (ps_expr (pe_bm PySem.F.plainAttrs_list PySem.F.slot_list_append PySem.F.type_list_append mt_append (pe_fld (pv 0) (by rfl)) (pa_cons (pe_tup (pa_cons (pv 1) (pa_cons (pe_fld (pv 0) (by rfl)) pa_nil))) pa_nil)))
  (pss_cons (ps_expr (pe_bm0 PySem.F.plainAttrs_list PySem.F.slot_list_clear PySem.F.type_list_clear mt_clear (pe_fld (pv 0) (by rfl))))
  (pss_cons (ps_fld (pv 0) (pv 2) (by rfl))
  (pss_one (ps_ret (pv 3))))))), ?_⟩)
  · obtain ⟨h, d, dx, s, p, q, fs, ps, qs, rfl, _⟩ := h
    rfl
  · obtain ⟨h, d, dx, s, p, q, fs, ps, qs, rfl, hh, ls, lp, lq, hp, hq, npq, zp, zf, kk⟩ := h
    refine ⟨_, rfl, h, C, dx, fs, _, rfl, hh, hC.c, hC.s, ls, _, rfl, ?_⟩
    refine kk _ fun r s' told H1 hr1 hh1 hp1 hq1 fin => ⟨r, _, rfl, st_of hr1, rfl, _, _, rfl, _, _, rfl, rfl, ?_⟩
    dsimp only [gName, List.set]
    refine ⟨_, rfl, h, C, dx, fs, _, rfl, hh1, hC.c, hC.p, lp, .inl ⟨rfl, _, sq_of hp1⟩, _, rfl, _, rfl, h, C, dx, fs, _, rfl, hh1, hC.c, hC.s, ls, sz_of (by simp), fun t ht => ?_⟩
    have nh : ∀ {x : Addr} {ys : List V}, H1 x = some (.lst ys) → h ≠ x := fun hx z => by
      rw [← z, hh1] at hx
      cases hx
    have npt : p ≠ t := ne_of_none hp1 ht
    have nqt : q ≠ t := ne_of_none hq1 ht
    have nht : h ≠ t := ne_of_none hh1 ht
    refine ⟨p, ps, _, rfl, rfl, by rw [upd_ne npt]; exact hp1, by rw [sizeLine_eq]; omega, ?_⟩
    have hh2 : upd (upd H1 t (.tup [.ref d, .ref s])) p (.lst (ps ++ [.ref t])) h = some (.ins C dx fs) := by rw [upd_ne (nh hp1), upd_ne nht]; exact hh1
    have hq2 : upd (upd H1 t (.tup [.ref d, .ref s])) p (.lst (ps ++ [.ref t])) q = some (.lst qs) := by rw [upd_ne (Ne.symm npq), upd_ne nqt]; exact hq1
    refine ⟨_, rfl, h, C, dx, fs, _, rfl, hh2, hC.c, hC.a, lq, .inl ⟨rfl, _, sq_of hq2⟩, q, qs, rfl, rfl, hq2, ?_⟩
    have hh3 : upd (upd (upd H1 t (.tup [.ref d, .ref s])) p (.lst (ps ++ [.ref t]))) q (.lst []) h = some (.ins C dx fs) := by rw [upd_ne (nh hq1)]; exact hh2
    refine ⟨_, rfl, _, rfl, h, C, dx, fs, rfl, hh3, hC.c, hC.s, zf, _, rfl, fin t ht⟩
end
end Hs
namespace Hs
open PySem PySem.Spec PyProof.Rows L2 Evl
/-- an own method by its promise -/
structure MetX (P : Program) (w : World) (K : PySem.W.Frag) (mg : Str → Option Value) (base : Heap) (k : Nat) (C : Addr) (m : Str) (ps : List Str) (dvs : List V) (sp : Sp) : Prop where
  c : Cls K C
  ex : ∃ (f : Addr) (fd : FuncData) (ds : List Value), FnOk P w K mg base (L2.CX P w) k f fd ps sp ∧ Meth K C m f ∧ Vals dvs ds ∧ Binds K fd ps ds
theorem pe_metX {X : Cx} {k j : Nat} {C : Addr} {m : Str} {ps : List Str} {dvs : List V} {sp : Sp} {E : XK} {pos apos : Pos} {e o : Expr} {es : List Expr} {ta : TE} {t : TA} {pl : Sem Bool} (M : MetX X.prog X.w X.K X.mg X.base k C m ps dvs sp) (hr : Room j X.A) (hk : k ≤ j) (hx : Passes (L2.CX X.prog X.w) X E) (he : PE X o ta) (ha : PA X (e :: es) t)
    (hst : starEach (e :: es) X.env = (false, eval e X.env) :: starEach es X.env := by rfl) (hpl : (backTo pos (starEach es X.env)).any (·.1) = false := by rfl)
    (ht : eval (.Call (.Attribute o m apos) (e :: es) [] pos) X.env = (do
      let ov ← eval o X.env
      standAt apos.atName
      let (f, first) ← holding [ov] (getMethod ov m pl)
      callWith pos f first (backTo pos (starEach (e :: es) X.env)) (backToKw pos (keywordEach [] X.env))) := by rfl) :
    PE X (.Call (.Attribute o m apos) (e :: es) [] pos) (tMeth C m sp dvs E ta t) := by
  obtain ⟨f, fd, ds, F, hm, hd, hb⟩ := M.ex
  exact pe_meth he M.c hm F (hr.mono hk) hb hd hx ha hst hpl ht
end Hs
namespace Hs
open PySem PySem.Spec PyProof.Rows L2 Evl
theorem pe_own0 {X : Cx} {k j : Nat} {x : Str} {sp : Sp} {p pos : Pos} (O : Own X.prog X.w X.K X.mg X.base k x [] sp) (hr : Room j X.A) (hk : k ≤ j) (hg : Gl X x) (hdb : (x == ("__debug__" : Str)) = false := by decide) : PE X (.Call (.Name x p) [] [] pos) (tCall sp [] E0 tNil) := by
  obtain ⟨f, fd, F, m, kp, b⟩ := O.ex
  exact pe_call0 F (hr.mono hk) hg m kp b .nil pass0 hdb
/-- a bare floor at p -/
structure BareA (H : Hp) (p : Addr) : Prop where
  ex : ∃ q1 q2 q3, Fz H p [(.inr "lamp", .ref q1), (.inr "post", .ref q2), (.inr "pane", .ref q3)] ∧ Fz H q1 [] ∧ Fz H q2 [] ∧ Fz H q3 []
def spBare : Sp := fun vs H Q _ => vs = [] ∧ ∀ p H', H p = none → Ex H H' → BareA H' p → Q (.ref p) H'
section
variable {P : Program} {w : World} {K : PySem.W.Frag} {mg : Str → Option Value} {base : Heap} {f C S : Addr} {fd : FuncData}
abbrev sBare : Stmt := top 68
theorem scBare : FnScope ["sort"] [] (defScope sBare) := ⟨rfl, rfl, rfl, by decide +kernel, rfl, by decide +kernel, by decide +kernel⟩
def sortsS : List Str := ["lamp", "post", "pane"]
/-- the floor in the making: i of the three -/
def BareI (H0 H : Hp) (D : Addr) (i : Nat) : Prop := Ex H0 H ∧ ∃ qs : List Addr, qs.length = i ∧ (∀ q ∈ qs, Fz H q []) ∧ H D = some (.dK ((sortsS.zip qs).map fun z => ((Sum.inr z.1 : Key), V.ref z.2)))
theorem ok_bare (F : FnP K "bare_floor" sBare f fd) (g_SORTS : mg "SORTS" = some (.ref S) ∧ RelV (.ref S) (.ref S)) (hS : ∀ H, SqT K H S sortsV) : FnOk P w K mg base CX0 1 f fd [] spBare := by
  have nd := scBare.nd
  refine F.ok scBare (fun vs H Q E h => ?_) (fun cdv A outer s H vs Q E hr h => ⟨_, PSs.nox (pss_one (ps_ret (Hs.pe_frz (pe_dc (own := [("sort", 0)]) (g := (gName 0)) rfl nd (pi_tup (pe_glob (by rfl) g_SORTS.1 g_SORTS.2)) (blkOk_by (N := ["sort"]) (sc := defScope (Hs.top 68)) (by decide +kernel)) (fun _ _ _ _ _ => (pg_name (i := 0) nd rfl (Or.inl rfl))) (fun _ _ _ _ _ => pts_nil) (fun _ _ _ _ _ => (pv 0)) (fun _ _ _ _ _ => (Hs.pe_frz pe_dnewK)))))), ?_⟩)
  · rw [h.1] <;> rfl
  · obtain ⟨rfl, k⟩ := h
    refine ⟨S, rfl, ⟨_, hS H⟩, fun D hD => ?_⟩
    refine dc_tup (xs := sortsV) (fun i H' => BareI H H' D i) ⟨Ex.new hD, [], rfl, (fun q hq => by cases hq), upd_same⟩ (fun i H' _ _ => hS H') (fun i x H' hi p => ?_) (fun H' p => ?_)
    · obtain ⟨e, qs, hl, hq, hD'⟩ := p
      obtain ⟨so, rfl, hso⟩ : ∃ so, x = V.str so ∧ sortsS[i]? = some so := by
        match i, hi with
        | 0, hi => cases hi; exact ⟨_, rfl, rfl⟩
        | 1, hi => cases hi; exact ⟨_, rfl, rfl⟩
        | 2, hi => cases hi; exact ⟨_, rfl, rfl⟩
        | i + 3, hi => cases hi
      refine ⟨rfl, ?_⟩
      simp only [tYes, if_true]
      refine ⟨_, rfl, fun q hqn => ⟨q, _, rfl, upd_same, True.intro, fun od => ?_⟩⟩
      have nD : D ≠ q := ne_of_none hD' hqn
      have e1 : Ex H' (upd (upd H' q (.dK [])) q (.frz od (.dK []))) := Ex.mut (Ex.new hqn) hqn
      have hD1 := e1 _ _ hD'
      refine ⟨_, .inr so, rfl, hD1, ?_, Ex.mut (e.trans e1) hD, qs ++ [q], by rw [List.length_append, hl] <;> rfl, fun r hr => ?_, ?_⟩
      · rw [sizeLine_eq, List.length_map, List.length_zip]
        have : sortsS.length = 3 := rfl
        omega
      · have keep : ∀ {r : Addr}, Fz (upd (upd H' q (.dK [])) q (.frz od (.dK []))) r [] → Fz (upd (upd (upd H' q (.dK [])) q (.frz od (.dK []))) D (.dK (putK ((sortsS.zip qs).map fun z => ((Sum.inr z.1 : Key), V.ref z.2)) (.inr so) (.ref q)))) r [] := fun {r} ⟨o, h⟩ => ⟨o, by
          rw [upd_ne (ne_of h hD1 (by intro z; cases z))]
          exact h⟩
        rcases List.mem_append.mp hr with z | z
        · exact keep ((hq r z).ext e1)
        · rw [List.mem_singleton.mp z]
          exact keep ⟨od, upd_same⟩
      · rw [upd_same]
        match i, qs, hl, hso with
        | 0, [], _, hso => cases hso; rfl
        | 1, [a], _, hso => cases hso; rfl
        | 2, [a, b], _, hso => cases hso; rfl
        | i + 3, _, _, hso => cases hso
    · obtain ⟨e, qs, hl, hq, hD'⟩ := p
      obtain ⟨q1, q2, q3, rfl⟩ : ∃ q1 q2 q3, qs = [q1, q2, q3] := match qs, hl with
        | [q1, q2, q3], _ => ⟨q1, q2, q3, rfl⟩
      refine ⟨D, _, rfl, hD', True.intro, fun od => k D _ hD (Ex.mut e hD) ?_⟩
      have keep : ∀ {r : Addr}, Fz H' r [] → Fz (upd H' D (.frz od (.dK ((sortsS.zip [q1, q2, q3]).map fun z => ((Sum.inr z.1 : Key), V.ref z.2))))) r [] := fun {r} ⟨o, h⟩ => ⟨o, by
        rw [upd_ne (ne_of h hD' (by intro z; cases z))]
        exact h⟩
      exact ⟨q1, q2, q3, ⟨od, upd_same⟩, keep (hq q1 (by simp)), keep (hq q2 (by simp)), keep (hq q3 (by simp))⟩
end
end Hs
namespace Hs
open PySem PySem.Spec PyProof.Rows L2 Evl
def comingV : List (Key × V) := [(.inr "lamp", .int 1), (.inr "post", .int 1), (.inr "pane", .int 1), (.inr "look", .int 1)]
def bareV (q1 q2 q3 : Addr) : List (Key × V) := [(.inr "lamp", .ref q1), (.inr "post", .ref q2), (.inr "pane", .ref q3)]
/-- the first state, at s -/
structure FirstA (K : PySem.W.Frag) (H : Hp) (s : Addr) : Prop where
  ex : ∃ fl lk cm q1 q2 q3, H s = some (.tup [.ref fl, .ref lk, .ref cm]) ∧ Fz H fl (bareV q1 q2 q3) ∧ Fz H lk [] ∧ Fz H cm comingV ∧ Fz H q1 [] ∧ Fz H q2 [] ∧ Fz H q3 []
def spFirst (K : PySem.W.Frag) : Sp := fun vs H Q _ => vs = [] ∧ ∀ s H', H s = none → Ex H H' → FirstA K H' s → Q (.ref s) H'
/-- a new house at h -/
def spInit (K : PySem.W.Frag) (C : Addr) : Sp := fun vs H Q _ => ∃ h dx, vs = [.ref h] ∧ H h = some (.ins C dx []) ∧ ∀ (s p q : Addr) (H' : Hp), (∀ b o, H b = some o → b ≠ h → H' b = some o) → H' h = some (.ins C dx [("state", .ref s), ("past", .ref p), ("ahead", .ref q), ("trying", .bl false)]) → H p = none → H q = none → p ≠ q → H' p = some (.lst []) → H' q = some (.lst []) → FirstA K H' s → Q .non H'
section
variable {P : Program} {w : World} {K : PySem.W.Frag} {mg : Str → Option Value} {base : Heap} {f C : Addr} {fd : FuncData}
abbrev sFirst : Stmt := top 78
theorem scFirst : FnScope [] [] (defScope sFirst) := ⟨rfl, rfl, rfl, by decide +kernel, rfl, by decide +kernel, by decide +kernel⟩
theorem ok_first (F : FnP K "first_state" sFirst f fd) (O_bare_floor : Own P w K mg base 1 "bare_floor" [] spBare) : FnOk P w K mg base CX0 2 f fd [] (spFirst K) := by
  have nd := scFirst.nd
  refine F.ok scFirst (fun vs H Q E h => ?_) (fun cdv A outer s H vs Q E hr h => ⟨_, PSs.nox (pss_one (ps_ret (pe_tup (pa_cons (Hs.pe_own0 O_bare_floor hr (by first | decide | omega) (by rfl)) (pa_cons (Hs.pe_frz pe_dnewK) (pa_cons (Hs.pe_frz (pe_disp (pps_cons pe_str pe_int (pps_cons pe_str pe_int (pps_cons pe_str pe_int (pps_cons pe_str pe_int pps_nil)))) (by rfl) (by rfl) (by simp) (by decide))) pa_nil)))))), ?_⟩)
  · rw [h.1] <;> rfl
  · obtain ⟨rfl, k⟩ := h
    refine ⟨rfl, fun fl H1 hfl e1 hB lk hlk => ⟨lk, _, rfl, upd_same, True.intro, fun od1 cm hcm => ⟨upd_same, comingV, rfl, by decide, cm, _, rfl, upd_same, True.intro, fun od2 => ⟨sz_of (by simp), fun s hs => ?_⟩⟩⟩⟩
    have em : mergeK [] comingV = comingV := by rfl
    rw [em] at hs ⊢
    have x1 : Ex H1 (upd (upd H1 lk (.dK [])) lk (.frz od1 (.dK []))) := Ex.mut (Ex.new hlk) hlk
    have x2 : Ex (upd (upd H1 lk (.dK [])) lk (.frz od1 (.dK []))) (upd (upd (upd (upd (upd H1 lk (.dK [])) lk (.frz od1 (.dK []))) cm (.dK [])) cm (.dK comingV)) cm (.frz od2 (.dK comingV))) := Ex.mut (Ex.mut (Ex.new hcm) hcm) hcm
    have x3 := Ex.new (o := .tup [V.ref fl, .ref lk, .ref cm]) hs
    obtain ⟨q1, q2, q3, b0, b1, b2, b3⟩ := hB.ex
    have e23 := (x1.trans x2).trans x3
    have hlk2 : Fz (upd (upd H1 lk (.dK [])) lk (.frz od1 (.dK []))) lk [] := ⟨od1, upd_same⟩
    exact k s _ (fresh_back (e1.trans (x1.trans x2)) hs) (e1.trans e23) ⟨fl, lk, cm, q1, q2, q3, upd_same, b0.ext e23, hlk2.ext (x2.trans x3), Fz.ext ⟨od2, upd_same⟩ x3, b1.ext e23, b2.ext e23, b3.ext e23⟩
abbrev sInit : Stmt := (inClass (Hs.top 103) 0)
theorem scInit : FnScope ["self"] ["self"] (defScope sInit) := ⟨rfl, rfl, rfl, by decide +kernel, rfl, by decide +kernel, by decide +kernel⟩
theorem FirstA.keep {H H' : Hp} {s h dx : Addr} {fs : List (Str × V)} (ho : H h = some (.ins C dx fs)) (a : FirstA K H s) (e : ∀ b u, H b = some u → b ≠ h → H' b = some u) : FirstA K H' s := by
  obtain ⟨fl, lk, cm, q1, q2, q3, h1, h2, h3, h4, h5, h6, h7⟩ := a.ex
  have kf : ∀ {x : Addr} {kvs : List (Key × V)}, Fz H x kvs → Fz H' x kvs := fun ⟨od, hx⟩ => ⟨od, e _ _ hx (ne_of hx ho (by intro z; cases z))⟩
  exact ⟨fl, lk, cm, q1, q2, q3, e _ _ h1 (ne_of h1 ho (by intro z; cases z)), kf h2, kf h3, kf h4, kf h5, kf h6, kf h7⟩
theorem ok_init (F : FunD K "__init__" "House.__init__" (defArgs sInit) (defBody sInit) (defScope sInit) [] [] f fd) (hC : HouseC K C) (O_first_state : Own P w K mg base 2 "first_state" [] (spFirst K)) : FnOk P w K mg base CX0 3 f fd ["self"] (spInit K C) := by
  have nd := scInit.nd
  refine F.ok scInit (fun vs H Q E h => ?_) (fun cdv A outer s H vs Q E hr h => ⟨_, PSs.nox (pss_cons (ps_fld (pv 0) (Hs.pe_own0 O_first_state hr (by first | decide | omega) (by rfl)) (by rfl))
  (pss_cons (ps_fld (pv 0) (pe_lst pa_nil) (by rfl))
  (pss_cons (ps_fld (pv 0) (pe_lst pa_nil) (by rfl))
  (pss_one (ps_fld (pv 0) pe_bl (by rfl)))))), ?_⟩)
  · obtain ⟨h, dx, rfl, _⟩ := h
    rfl
  · obtain ⟨h, dx, rfl, hh, k⟩ := h
    refine ⟨rfl, fun s H1 hs e1 hF => ⟨_, rfl, h, C, dx, _, rfl, e1 _ _ hh, hC.c, hC.s, by decide, ?_⟩⟩
    have n1 : ∀ b u, H1 b = some u → b ≠ h → upd H1 h (.ins C dx (putF "state" (.ref s) [])) b = some u := fun b u hb hn => by
      rw [upd_ne hn]
      exact hb
    refine ⟨sz_of (by simp), fun p hp => ⟨_, rfl, h, C, dx, _, rfl, (Ex.new hp) _ _ upd_same, hC.c, hC.p, (show 1 < 1000 by decide), ?_⟩⟩
    refine ⟨sz_of (by simp), fun q hq => ⟨_, rfl, h, C, dx, _, rfl, (Ex.new hq) _ _ upd_same, hC.c, hC.a, (show 2 < 1000 by decide), ?_⟩⟩
    refine ⟨_, rfl, h, C, dx, _, rfl, upd_same, hC.c, hC.t, (show 3 < 1000 by decide), ?_⟩
    have nph : p ≠ h := fun z => by
      rw [z, upd_same] at hp
      cases hp
    have nqh : q ≠ h := fun z => by
      rw [z, upd_same] at hq
      cases hq
    have nqp : q ≠ p := fun z => by
      rw [z, upd_ne nph, upd_same] at hq
      cases hq
    have hp1 : H1 p = none := by
      rw [upd_ne nph] at hp
      exact hp
    have hq1 : H1 q = none := by
      rw [upd_ne nqh, upd_ne nqp, upd_ne nqh] at hq
      exact hq
    have all : ∀ b u, H1 b = some u → b ≠ h → upd (upd (upd (upd (upd (upd H1 h (.ins C dx (putF "state" (.ref s) []))) p (.lst [])) h (.ins C dx (putF "past" (.ref p) (putF "state" (.ref s) [])))) q (.lst [])) h (.ins C dx (putF "ahead" (.ref q) (putF "past" (.ref p) (putF "state" (.ref s) []))))) h (.ins C dx (putF "trying" (.bl false) (putF "ahead" (.ref q) (putF "past" (.ref p) (putF "state" (.ref s) []))))) b = some u := fun b u hb hn => by
      rw [upd_ne hn, upd_ne hn, upd_ne (ne_of_none hb hq1), upd_ne hn, upd_ne (ne_of_none hb hp1), upd_ne hn]
      exact hb
    refine k s p q _ (fun b o hb hn => all b o (e1 _ _ hb) hn) ?_ (fresh_back e1 hp1) (fresh_back e1 hq1) (Ne.symm nqp) ?_ ?_ (hF.keep (e1 _ _ hh) all)
    · rw [upd_same] <;> rfl
    · rw [upd_ne nph, upd_ne nph, upd_ne (Ne.symm nqp), upd_ne nph, upd_same]
    · rw [upd_ne nqh, upd_ne nqh, upd_same]
end
end Hs
namespace Hs
open PySem PySem.Spec PyProof.Rows L2 Evl
/-- lamps as they stand: how many choices each, on or off -/
def LampsA (H : Hp) (ts : List (Key × V)) (ls : List (Nat × Bool)) : Prop := ts.length = ls.length ∧ ∀ (i : Nat) (k : Key) (v : V) (n : Nat) (on : Bool), ts[i]? = some (k, v) → ls[i]? = some (n, on) → ∃ th ch cs, v = .ref th ∧ H th = some (.tup [.ref ch, .bl on]) ∧ H ch = some (.tup cs) ∧ cs.length = n
theorem LampsA.ext {H H' : Hp} {ts : List (Key × V)} {ls : List (Nat × Bool)} (h : LampsA H ts ls) (e : Ex H H') : LampsA H' ts ls := ⟨h.1, fun i k v n on h1 h2 => by
  obtain ⟨th, ch, cs, e1, e2, e3, e4⟩ := h.2 i k v n on h1 h2
  exact ⟨th, ch, cs, e1, e _ _ e2, e _ _ e3, e4⟩⟩
def cnts (ls : List (Nat × Bool)) : List Int := (ls.filter fun z => decide (1 < z.1)).map fun z => (z.1 : Int)
theorem cnts_len (ls : List (Nat × Bool)) : (cnts ls).length ≤ ls.length := by
  unfold cnts
  rw [List.length_map]
  exact List.length_filter_le ..
theorem cnts_next {ls : List (Nat × Bool)} {i n : Nat} {on : Bool} (h : ls[i]? = some (n, on)) : cnts (ls.take (i + 1)) = cnts (ls.take i) ++ if 1 < n then [(n : Int)] else [] := by
  unfold cnts
  rw [List.take_add_one, h, List.filter_append, List.map_append]
  congr 1
  by_cases hn : 1 < n
  · simp [hn]
  · simp [hn]
def spCounts (K : PySem.W.Frag) : Sp := fun vs H Q _ => ∃ (a : Addr) (ts : List (Key × V)) (ls : List (Nat × Bool)), vs = [.ref a] ∧ Fz H a ts ∧ LampsA H ts ls ∧ ts.length ≤ 1000 ∧ (∀ z ∈ ls, z.1 ≤ 1000) ∧ ∀ p H', H p = none → Ex H H' → H' p = some (.lst (iv (cnts ls))) → Q (.ref p) H'
section
variable {P : Program} {w : World} {K : PySem.W.Frag} {mg : Str → Option Value} {base : Heap} {f C : Addr} {fd : FuncData}
abbrev sCounts : Stmt := top 56
theorem scCounts : FnScope ["lamps", "choices", "on"] ["lamps"] (defScope sCounts) := ⟨rfl, rfl, rfl, by decide +kernel, rfl, by decide +kernel, by decide +kernel⟩
theorem ok_counts (F : FnP K "counts_of" sCounts f fd) (g_len : mg "len" = none) : FnOk P w K mg base CX0 1 f fd ["lamps"] (spCounts K) := by
  have nd := scCounts.nd
  refine F.ok scCounts (fun vs H Q E h => ?_) (fun cdv A outer s H vs Q E hr h => ⟨_, PSs.nox (pss_one (ps_ret (pe_lc (own := [("choices", 1), ("on", 2)]) (g := gTup K 2 (gCons (gName 1) (gCons (gName 2) gNil))) rfl nd (pi_values (pv 0)) (blkOk_by (N := ["lamps", "choices", "on"]) (sc := defScope (Hs.top 56)) (by decide +kernel)) (fun _ _ _ _ _ => (pg_tup rfl (pgs_cons (pg_name (i := 1) nd rfl (Or.inl rfl)) (pgs_cons (pg_name (i := 2) nd rfl (Or.inl rfl)) pgs_nil)))) (fun _ _ _ _ _ => (pts_one (pt_cmpR op_gt (pe_callB (r := Evl.rLenS K) call_len_seq (by rfl) g_len PySem.boot_len (pa_cons (pv 1) pa_nil)) pe_int (nomark _)))) (fun _ _ _ _ _ => (pe_callB (r := Evl.rLenS K) call_len_seq (by rfl) g_len PySem.boot_len (pa_cons (pv 1) pa_nil)))))), ?_⟩)
  · obtain ⟨a, ts, ls, rfl, _⟩ := h
    rfl
  · obtain ⟨a, ts, ls, rfl, ⟨od, ha⟩, hL, hz, hn, k⟩ := h
    refine ⟨_, rfl, a, od, ts, rfl, ha, fun D hD => ?_⟩
    refine lc_it walk_values (fun i H' => Ex H H' ∧ H' D = some (.lst (iv (cnts (ls.take i))))) ⟨Ex.new hD, upd_same⟩ (fun i H' _ p => p.1 _ _ ha) (fun i x H' H'' hi p y => ?_) (fun H' p => ?_)
    · obtain ⟨rfl, key, hx⟩ := y
      obtain ⟨e, hD'⟩ := p
      obtain ⟨⟨n, on⟩, hln⟩ : ∃ z, ls[i]? = some z := ⟨_, List.getElem?_eq_getElem (by rw [← hL.1]; exact hi)⟩
      obtain ⟨th, ch, cs, rfl, h1, h2, h3⟩ := (hL.ext e).2 i key x n on hx hln
      refine ⟨th, _, rfl, st_of h1, rfl, _, _, rfl, _, _, rfl, rfl, rfl, ?_⟩
      refine (et_test (ev_op (ev_lenQ (K := K) (ev_var rfl) (.inr (st_of h2))) ev_c rv_I0)) _ (Ex.refl _) _ fun H3 e3 => ?_
      have hD3 := e3 _ _ hD'
      have h23 := e3 _ _ h2
      by_cases hc : 1 < n
      · refine ite_T (decide_eq_true (by rw [h3]; omega)) ⟨_, rfl, ch, cs, rfl, .inr (st_of h23), _, hD3, ?_, Ex.mut (e.trans e3) hD, ?_⟩
        · rw [List.length_map]
          have := cnts_len (ls.take i)
          rw [List.length_take] at this
          rw [sizeLine_eq]
          omega
        · rw [upd_same, cnts_next hln, if_pos hc, h3]
          show some (HO.lst (iv (cnts (ls.take i)) ++ [V.int n])) = some (HO.lst (iv (cnts (ls.take i) ++ [(n : Int)])))
          rw [show iv (cnts (ls.take i) ++ [(n : Int)]) = iv (cnts (ls.take i)) ++ [V.int n] from List.map_append ..]
      · refine ite_F (decide_eq_false (by rw [h3]; omega)) ⟨e.trans e3, ?_⟩
        rw [cnts_next hln, if_neg hc, List.append_nil]
        exact hD3
    · refine k D H' hD p.1 ?_
      have z := p.2
      rw [hL.1, List.take_length] at z
      exact z
end
end Hs
namespace Hs
open PySem PySem.Spec PyProof.Rows L2 Evl
theorem putK_new {kvs : List (Key × V)} {k : Key} {v : V} (h : ∀ p ∈ kvs, p.1 ≠ k) : putK kvs k v = kvs ++ [(k, v)] := by
  unfold putK
  rw [if_neg]
  rw [List.any_eq_true]
  rintro ⟨p, hp, e⟩
  exact h p hp (of_decide_eq_true e)
end Hs
namespace Hs
open PySem PySem.Spec PyProof.Rows L2 Evl
def siftsV : List V := [.str "", .str "r", .str "g", .str "b", .str "rg", .str "rb", .str "gb", .str "rgb"]
def good (z : Str) : Bool := inV (.str z) siftsV
def spCheck (C : Addr) : Sp := fun vs H Q E => ∃ z : Str, vs = [.str z] ∧ (good z = false → Flies C "badsift" H E) ∧ (good z = true → RetV .non H Q)
section
variable {P : Program} {w : World} {K : PySem.W.Frag} {mg : Str → Option Value} {base : Heap} {f C S : Addr} {fd : FuncData}
abbrev sCheck : Stmt := top 35
theorem scCheck : FnScope ["sift"] ["sift"] (defScope sCheck) := ⟨rfl, rfl, rfl, by decide +kernel, rfl, by decide +kernel, by decide +kernel⟩
theorem ok_check (F : FnP K "check_sift" sCheck f fd) (Er_BadSift : ErrF P w K mg base 1 "BadSift" C "badsift") (g_SIFTS : mg "SIFTS" = some (.ref S) ∧ RelV (.ref S) (.ref S)) (hS : ∀ H, SqT K H S siftsV) : FnOk P w K mg base (L2.CX P w) 3 f fd ["sift"] (spCheck C) := by
  have nd := scCheck.nd
  refine F.ok scCheck (fun vs H Q E h => ?_) (fun cdv A outer s H vs Q E hr h => ⟨_, (pss_one (ps_if (pt_cmpR op_notIn_seq (pv 0) (pe_glob (by rfl) g_SIFTS.1 g_SIFTS.2) (by rfl)) (pss_one (ps_raise rfl (takes_of rfl rfl rfl rfl) (Hs.pmk_err Er_BadSift hr (by decide) (by rfl)))) pss_nil)), ?_⟩)
  · obtain ⟨z, rfl, _⟩ := h
    rfl
  · obtain ⟨z, rfl, kE, k⟩ := h
    refine ⟨_, rfl, S, siftsV, rfl, .inr (hS H), rfl, by decide, ?_⟩
    cases hg : good z with
    | true =>
      have hg' : inV (.str z) siftsV = true := hg
      refine ⟨_, rfl, ite_F (by rw [hg'] <;> rfl) ?_⟩
      exact k hg H (Ex.refl H)
    | false =>
      have hg' : inV (.str z) siftsV = false := hg
      refine ⟨_, rfl, ite_T (by rw [hg'] <;> rfl) ?_⟩
      exact kE hg
/-! ### a light sifted -/
abbrev Tri := Int × Int × Int
def tri (x : Tri) : List V := [.int x.1, .int x.2.1, .int x.2.2]
/-- whether the letter stands in the text -/
def has (c : Nat) (z : Str) : Bool := decide (c ∈ z.cps.toList)
/-! ### sums of lights -/
/-- lights that stand: of each its object -/
def Lights (K : PySem.W.Frag) (H : Hp) (ps : List Addr) (xs : List Tri) : Prop := ps.length = xs.length ∧ ∀ (i : Nat) (p : Addr) (x : Tri), ps[i]? = some p → xs[i]? = some x → SqT K H p (tri x)
end
end Hs
namespace Hs
open PySem PySem.Spec PyProof.Rows L2 Evl
/-! ### both sifts -/
def S8 : List Str := ["", "r", "g", "b", "rg", "rb", "gb", "rgb"]
theorem letters_at {v : Int} (h0 : 0 ≤ v) (h1 : v < 8) : ∃ z ∈ S8, atI siftsV v = some (.str z) := by
  obtain rfl | rfl | rfl | rfl | rfl | rfl | rfl | rfl : v = 0 ∨ v = 1 ∨ v = 2 ∨ v = 3 ∨ v = 4 ∨ v = 5 ∨ v = 6 ∨ v = 7 := by omega
  all_goals exact ⟨_, by decide, rfl⟩
theorem good_of {z : Str} (h : z ∈ S8) : good z = true := by
  have e : ∀ z ∈ S8, good z = true := by decide +kernel
  exact e z h
/-! ### figures -/
inductive Fig where
  | post (B : Blk)
  | pane (a b : Pt) (z : Str)
def Fig.sort : Fig → Str
  | .post _ => "post"
  | .pane _ _ _ => "pane"
def Fig.ok : Fig → Prop
  | .post _ => True
  | .pane _ _ z => z ∈ S8
def FigV (K : PySem.W.Frag) (n : Nat) (H : Hp) (v : V) : Fig → Prop
  | .post B => ∃ p, v = .ref p ∧ Bl K n H p B
  | .pane a b z => ∃ p q, v = .ref p ∧ SqT K H p [.ref q, .str z] ∧ Pc K n H q a b
theorem FigV.ext {K : PySem.W.Frag} {n : Nat} {H H' : Hp} {v : V} {F : Fig} (h : FigV K n H v F) (e : Ex H H') : FigV K n H' v F := by
  cases F with
  | post B =>
    obtain ⟨p, rfl, hp⟩ := h
    exact ⟨p, rfl, hp.ext e⟩
  | pane a b z =>
    obtain ⟨p, q, rfl, hp, hq⟩ := h
    exact ⟨p, q, rfl, ex_t e hp, hq.ext e⟩
/-- the figures at a, as the program lists them -/
def FigsA (K : PySem.W.Frag) (n : Nat) (H : Hp) (a : Addr) (Fs : List Fig) : Prop := ∃ ps : List Addr, H a = some (.lst (ps.map V.ref)) ∧ ps.length = Fs.length ∧ ∀ (i : Nat) (p : Addr) (F : Fig), ps[i]? = some p → Fs[i]? = some F → ∃ (num : Int) (v : V), H p = some (.tup [.str F.sort, .int num, v]) ∧ FigV K n H v F
theorem FigsA.ext {K : PySem.W.Frag} {n : Nat} {H H' : Hp} {a : Addr} {Fs : List Fig} (h : FigsA K n H a Fs) (e : Ex H H') : FigsA K n H' a Fs := by
  obtain ⟨ps, h1, h2, h3⟩ := h
  refine ⟨ps, e _ _ h1, h2, fun i p F hp hF => ?_⟩
  obtain ⟨num, v, g1, g2⟩ := h3 i p F hp hF
  exact ⟨num, v, e _ _ g1, g2.ext e⟩
end Hs
namespace Hs
open PySem PySem.Spec PyProof.Rows L2 Evl
/-! ### the figures of a floor -/
/-- things of one sort, by their numbers -/
def ThingsA (K : PySem.W.Frag) (n : Nat) (H : Hp) (ts : List (Key × V)) (Fs : List Fig) : Prop := ts.length = Fs.length ∧ ∀ (i : Nat) (k : Key) (v : V) (F : Fig), ts[i]? = some (k, v) → Fs[i]? = some F → (∃ num : Int, k = .inl num) ∧ FigV K n H v F
theorem ThingsA.ext {K : PySem.W.Frag} {n : Nat} {H H' : Hp} {ts : List (Key × V)} {Fs : List Fig} (h : ThingsA K n H ts Fs) (e : Ex H H') : ThingsA K n H' ts Fs := ⟨h.1, fun i k v F h1 h2 => let ⟨a, b⟩ := h.2 i k v F h1 h2; ⟨a, b.ext e⟩⟩
section
variable {P : Program} {w : World} {K : PySem.W.Frag} {mg : Str → Option Value} {base : Heap} {f C : Addr} {fd : FuncData} {n : Nat}
/-- the list in the making: what stands before is kept, D holds the figures so far -/
def FigI (K : PySem.W.Frag) (n : Nat) (H0 H' : Hp) (D : Addr) (Fs : List Fig) : Prop := Ex H0 H' ∧ FigsA K n H' D Fs
theorem FigI.next {K : PySem.W.Frag} {n : Nat} {H0 H1 H2 : Hp} {D T : Addr} {Fs : List Fig} {F : Fig} {num : Int} {v : V} (h : FigI K n H0 H1 D Fs) (hD : H0 D = none) (e : Ex H1 H2) (hT : H2 T = some (.tup [.str F.sort, .int num, v])) (hv : FigV K n H2 v F) (hz : Fs.length ≤ 5000) :
    ∃ acc, H2 D = some (.lst acc) ∧ acc.length < sizeLine ∧ FigI K n H0 (upd H2 D (.lst (acc ++ [.ref T]))) D (Fs ++ [F]) := by
  obtain ⟨e0, ps, h1, h2, h3⟩ := h
  have hD2 := e _ _ h1
  have tupk : ∀ {K : PySem.W.Frag} {a : Addr} {xs : List V} {o : HO}, SqT K H2 a xs → SqT K (upd H2 D o) a xs := fun {K a xs o} h => by
    rcases h with (h | ⟨od, h⟩) | h
    · exact .inl (.inl (by rw [upd_ne (ne_of h hD2 (by intro z; cases z))]; exact h))
    · exact .inl (.inr ⟨od, by rw [upd_ne (ne_of h hD2 (by intro z; cases z))]; exact h⟩)
    · exact .inr h
  have figk : ∀ {v : V} {G : Fig} {o : HO}, FigV K n H2 v G → FigV K n (upd H2 D o) v G := fun {v G o} h => by
    cases G with
    | post B =>
      obtain ⟨p, rfl, hp⟩ := h
      exact ⟨p, rfl, tupk hp.1, hp.2⟩
    | pane a b z =>
      obtain ⟨p, q, rfl, hp, c, d, g1, g2, g3⟩ := h
      exact ⟨p, q, rfl, tupk hp, c, d, tupk g1, ⟨tupk g2.1, g2.2⟩, ⟨tupk g3.1, g3.2⟩⟩
  refine ⟨_, hD2, by rw [List.length_map, h2, sizeLine_eq]; omega, Ex.mut (e0.trans e) hD, ps ++ [T], by rw [upd_same, List.map_append] <;> rfl, by rw [List.length_append, List.length_append, h2] <;> rfl, fun i p G hp hG => ?_⟩
  by_cases hj : i < ps.length
  · rw [List.getElem?_append_left hj] at hp
    rw [List.getElem?_append_left (by rw [← h2]; exact hj)] at hG
    obtain ⟨m, u, g1, g2⟩ := h3 i p G hp hG
    exact ⟨m, u, by rw [upd_ne (ne_of (e _ _ g1) hD2 (by intro z; cases z))]; exact e _ _ g1, figk (g2.ext e)⟩
  · rw [List.getElem?_append_right (by omega)] at hp
    rw [List.getElem?_append_right (by rw [← h2]; omega), ← h2] at hG
    have e00 : i - ps.length = 0 := by
      have : i - ps.length < 1 := (List.getElem?_eq_some_iff.mp hp).1
      omega
    rw [e00] at hp hG
    cases hp
    cases hG
    exact ⟨num, v, by rw [upd_ne (ne_of hT hD2 (by intro z; cases z))]; exact hT, figk hv⟩
end
end Hs
namespace Hs
open PySem PySem.Spec PyProof.Rows L2 Evl
theorem pi_tupK {X : Cx} {K : PySem.W.Frag} {tg l : Expr} {tl : TE} (hl : PE X l tl) (hK : X.K = K := by rfl) : PI X tg l (iTup K tl) := by
  subst hK
  exact pi_tup hl
theorem sqt_upd {K : PySem.W.Frag} {H : Hp} {a r : Addr} {xs : List V} {o u : HO} (h : SqT K H a xs) (hr : H r = some u) (n1 : ∀ ys, HO.tup ys ≠ u) (n2 : ∀ od v, HO.frz od v ≠ u) : SqT K (upd H r o) a xs := by
  rcases h with (h | ⟨od, h⟩) | h
  · exact .inl (.inl (by rw [upd_ne (ne_of h hr (n1 _))]; exact h))
  · exact .inl (.inr ⟨od, by rw [upd_ne (ne_of h hr (n2 _ _))]; exact h⟩)
  · exact .inr h
theorem Lights.ext {K : PySem.W.Frag} {H H' : Hp} {ps : List Addr} {xs : List Tri} (h : Lights K H ps xs) (e : Ex H H') : Lights K H' ps xs := ⟨h.1, fun i p x hp hx => ex_t e (h.2 i p x hp hx)⟩
theorem Lights.upd {K : PySem.W.Frag} {H : Hp} {ps : List Addr} {xs : List Tri} {r : Addr} {o u : HO} (h : Lights K H ps xs) (hr : H r = some u) (n1 : ∀ ys, HO.tup ys ≠ u) (n2 : ∀ od v, HO.frz od v ≠ u) : Lights K (L2.upd H r o) ps xs := ⟨h.1, fun i p x hp hx => sqt_upd (h.2 i p x hp hx) hr n1 n2⟩
theorem Lights.snoc {K : PySem.W.Frag} {H : Hp} {ps : List Addr} {xs : List Tri} {q : Addr} {y : Tri} (h : Lights K H ps xs) (hq : SqT K H q (tri y)) : Lights K H (ps ++ [q]) (xs ++ [y]) := by
  refine ⟨by rw [List.length_append, List.length_append, h.1] <;> rfl, fun j p r' hp hr => ?_⟩
  by_cases hj : j < ps.length
  · rw [List.getElem?_append_left hj] at hp
    rw [List.getElem?_append_left (by rw [← h.1]; exact hj)] at hr
    exact h.2 j p r' hp hr
  · rw [List.getElem?_append_right (by omega)] at hp
    rw [List.getElem?_append_right (by rw [← h.1]; omega), ← h.1] at hr
    have e0 : j - ps.length = 0 := by
      have : j - ps.length < 1 := (List.getElem?_eq_some_iff.mp hp).1
      omega
    rw [e0] at hp hr
    cases hp
    cases hr
    exact hq
/-! ### lamps with their choices -/
abbrev Chc := Int × Int × Tri
def chv (c : Chc) : List V := iv [c.1, c.2.1, c.2.2.1, c.2.2.2.1, c.2.2.2.2]
structure LampG (H : Hp) (th : Addr) (cs : List Chc) (on : Bool) : Prop where
  ex : ∃ (ch : Addr) (ps : List Addr), H th = some (.tup [.ref ch, .bl on]) ∧ H ch = some (.tup (ps.map V.ref)) ∧ ps.length = cs.length ∧ ∀ (i : Nat) (p : Addr) (c : Chc), ps[i]? = some p → cs[i]? = some c → H p = some (.tup (chv c))
theorem LampG.keep {H H' : Hp} {th : Addr} {on : Bool} {cs : List Chc} (h : LampG H th cs on) (e : ∀ p xs, H p = some (.tup xs) → H' p = some (.tup xs)) : LampG H' th cs on := by
  obtain ⟨ch, ps, h1, h2, h3, h4⟩ := h.ex
  exact ⟨ch, ps, e _ _ h1, e _ _ h2, h3, fun i p c hp hc => e _ _ (h4 i p c hp hc)⟩
def LampsG (H : Hp) (ts : List (Key × V)) (ls : List (List Chc × Bool)) : Prop := ts.length = ls.length ∧ ∀ (i : Nat) (k : Key) (v : V) (z : List Chc × Bool), ts[i]? = some (k, v) → ls[i]? = some z → ∃ th, v = .ref th ∧ LampG H th z.1 z.2
theorem LampsG.keep {H H' : Hp} {ts : List (Key × V)} {ls : List (List Chc × Bool)} (h : LampsG H ts ls) (e : ∀ p xs, H p = some (.tup xs) → H' p = some (.tup xs)) : LampsG H' ts ls := ⟨h.1, fun i k v z h1 h2 => let ⟨th, e1, l⟩ := h.2 i k v z h1 h2; ⟨th, e1, l.keep e⟩⟩
theorem LampsG.ext {H H' : Hp} {ts : List (Key × V)} {ls : List (List Chc × Bool)} (h : LampsG H ts ls) (e : Ex H H') : LampsG H' ts ls := h.keep fun _ _ z => e _ _ z
def nOn (ls : List (List Chc × Bool)) : List (Nat × Bool) := ls.map fun z => (z.1.length, z.2)
theorem LampsG.a {H : Hp} {ts : List (Key × V)} {ls : List (List Chc × Bool)} (h : LampsG H ts ls) : LampsA H ts (nOn ls) := by
  refine ⟨by rw [h.1, nOn, List.length_map], fun i k v n on h1 h2 => ?_⟩
  unfold nOn at h2
  rw [List.getElem?_map] at h2
  obtain ⟨z, hz, e⟩ := Option.map_eq_some_iff.mp h2
  cases e
  obtain ⟨th, rfl, l⟩ := h.2 i k v z h1 hz
  obtain ⟨ch, ps, q1, q2, q3, _⟩ := l.ex
  exact ⟨th, ch, _, rfl, q1, q2, by rw [List.length_map, q3]⟩
def RowA (K : PySem.W.Frag) (H : Hp) (r : Addr) (xs : List Tri) : Prop := ∃ ps : List Addr, H r = some (.lst (ps.map V.ref)) ∧ Lights K H ps xs
theorem RowA.ext {K : PySem.W.Frag} {H H' : Hp} {r : Addr} {xs : List Tri} (h : RowA K H r xs) (e : Ex H H') : RowA K H' r xs := let ⟨ps, h1, h2⟩ := h; ⟨ps, e _ _ h1, h2.ext e⟩
theorem RowA.upd {K : PySem.W.Frag} {H : Hp} {r D : Addr} {xs : List Tri} {o : HO} {kvs : List (Key × V)} (h : RowA K H r xs) (hD : H D = some (.dK kvs)) : RowA K (L2.upd H D o) r xs := by
  obtain ⟨ps, h1, h2⟩ := h
  exact ⟨ps, by rw [upd_ne (ne_of h1 hD (by intro z; cases z))]; exact h1, h2.upd hD (by intro _ z; cases z) (by intro _ _ z; cases z)⟩
def ChB (c : Chc) : Prop := Bd 20 c.1 ∧ Bd 20 c.2.1
/-- by the figures at a each choice brings L to the point at p -/
def BrBy (K : PySem.W.Frag) (spB : Sp) (p : Addr) (L : Chc → Tri) (a : Addr) (H1 : Hp) : Prop := ∀ (H2 : Hp), Ex H1 H2 → ∀ (c : Chc) (q : Addr), ChB c → SqT K H2 q (chv c) → ∀ Q' : VK, RetU (tri (L c)) H2 Q' → spB [.ref a, .ref q, .ref p] H2 Q' E0
end Hs
namespace Hs
open PySem PySem.Spec PyProof.Rows L2 Evl
/-! ### the light at a place -/
theorem nOn_at {ls : List (List Chc × Bool)} {i : Nat} {z : List Chc × Bool} (h : ls[i]? = some z) : (nOn ls)[i]? = some (z.1.length, z.2) := by
  unfold nOn
  rw [List.getElem?_map, h] <;> rfl
/-- what stands and gives light at the house h: state s, its floor fl, its lamps at b -/
structure LitA (K : PySem.W.Frag) (C : Addr) (H : Hp) (h dx s fl lk cm b : Addr) (fs : List (Str × V)) (kvs lo cs ts : List (Key × V)) (ls : List (List Chc × Bool)) : Prop where
  h : H h = some (.ins C dx fs)
  f : fs.lookup ("state" : Str) = some (.ref s)
  s : StA K H s fl lk cm kvs lo cs
  v : valV kvs (.inr "lamp") = some (.ref b)
  b : Fz H b ts
  l : LampsG H ts ls
  n : (ts.map (·.1)).Nodup
  z : ts.length ≤ 1000
  c : ∀ z ∈ ls, z.1.length ≤ 1000
  o : ∀ z ∈ ls, 1 ≤ z.1.length
  t : Cnt (cnts (nOn ls))
  g : ∀ z ∈ ls, ∀ c ∈ z.1, ChB c
theorem LitA.ext {K : PySem.W.Frag} {C : Addr} {H H' : Hp} {h dx s fl lk cm b : Addr} {fs : List (Str × V)} {kvs lo cs ts : List (Key × V)} {ls : List (List Chc × Bool)} (a : LitA K C H h dx s fl lk cm b fs kvs lo cs ts ls) (e : Ex H H') : LitA K C H' h dx s fl lk cm b fs kvs lo cs ts ls := ⟨e _ _ a.h, a.f, a.s.ext e, a.v, a.b.ext e, a.l.ext e, a.n, a.z, a.c, a.o, a.t, a.g⟩
/-- the figures of the floor fl let L through to the place (x, y) -/
def Figs (K : PySem.W.Frag) (spF spB : Sp) (fl : Addr) (x y : Int) (L : Chc → Tri) (H : Hp) : Prop := ∀ (H0 : Hp) (p : Addr), Ex H H0 → H0 p = some (.tup [.int x, .int y]) → ∀ Q' : VK, (∀ a H1, Ex H0 H1 → BrBy K spB p L a H1 → Q' (.ref a) H1) → spF [.ref fl] H0 Q' E0
theorem Figs.ext {K : PySem.W.Frag} {spF spB : Sp} {fl : Addr} {x y : Int} {L : Chc → Tri} {H H' : Hp} (h : Figs K spF spB fl x y L H) (e : Ex H H') : Figs K spF spB fl x y L H' := fun H0 p e0 hp Q' k => h H0 p (e.trans e0) hp Q' k
end Hs
namespace Hs
open PySem PySem.Spec PyProof.Rows L2 Evl
theorem dp_pt {K : PySem.W.Frag} {H : Hp} {p : Addr} {x : Pt} (h : SqT K H p (prV x)) : Dp K H (.ref p) (PySem.W.Datum.toD x) := .tup h (.cons (.int _) (.cons (.int _) .nil))
theorem ev_eqPt {K : PySem.W.Frag} {σ : L2.St} {H : Hp} {tx ty : TE} {p q : Addr} {x y : Pt} (hx : Ev tx σ H (.ref p)) (hy : Ev ty σ H (.ref q)) (px : SqT K H p (prV x)) (qy : SqT K H q (prV y)) : Ev (tOp (rEqD K) tx ty) σ H (.bl (decide (x = y))) := fun H1 e Q k =>
  hx H1 e _ fun H2 e2 => hy H2 (e.trans e2) _ fun H3 e3 => ⟨_, _, dp_pt (ex_t ((e.trans e2).trans e3) px), dp_pt (ex_t ((e.trans e2).trans e3) qy), rfl, rfl, by rw [PySem.W.Datum.eqv]; exact k H3 (e2.trans e3)⟩
end Hs
namespace Hs
open PySem PySem.Spec PyProof.Rows L2 Evl
def spDoPost (K : PySem.W.Frag) (cP cB cF : Addr) : Sp := fun vs H Q E => ∃ (s fl lk cm b : Addr) (kvs ls cs ts : List (Key × V)) (n x y u z : Int), vs = [.ref s, .int x, .int y, .int u, .int z] ∧ StA K H s fl lk cm kvs ls cs ∧ valV kvs (.inr "post") = some (.ref b) ∧ Fz H b ts ∧ valV cs (.inr "post") = some (.int n) ∧
  kvs.length ≤ 10000 ∧ ts.length ≤ 10000 ∧ cs.length ≤ 10000 ∧ (¬ InFar [x, y, u, z] → Flies cP "badplace" H E) ∧ (InFar [x, y, u, z] → ¬ (x ≤ u ∧ y ≤ z) → Flies cB "badblock" H E) ∧ (InFar [x, y, u, z] → x ≤ u ∧ y ≤ z → 12 ≤ ts.length → Flies cF "full" H E) ∧
  (InFar [x, y, u, z] → x ≤ u ∧ y ≤ z → ts.length < 12 → ∀ (th : Addr) (H1 : Hp), Ex H H1 → H1 th = some (.tup (iv [x, y, u, z])) → RetPt kvs ts ls cs lk "post" n (.ref th) K H1 Q)
/-- the pane from (x, y) to (u, z) at th -/
def PaneA (H : Hp) (th : Addr) (x y u z : Int) (sf : Str) : Prop := ∃ pc a b, H th = some (.tup [.ref pc, .str sf]) ∧ H pc = some (.tup [.ref a, .ref b]) ∧ H a = some (.tup (iv [x, y])) ∧ H b = some (.tup (iv [u, z]))
def spDoPane (K : PySem.W.Frag) (cP cI cS cF : Addr) : Sp := fun vs H Q E => ∃ (s fl lk cm b : Addr) (kvs ls cs ts : List (Key × V)) (n x y u z : Int) (sf : Str), vs = [.ref s, .int x, .int y, .int u, .int z, .str sf] ∧ StA K H s fl lk cm kvs ls cs ∧ valV kvs (.inr "pane") = some (.ref b) ∧ Fz H b ts ∧ valV cs (.inr "pane") = some (.int n) ∧
  kvs.length ≤ 10000 ∧ ts.length ≤ 10000 ∧ cs.length ≤ 10000 ∧ (¬ (InFar [x, y] ∧ InFar [u, z]) → Flies cP "badplace" H E) ∧ (InFar [x, y] ∧ InFar [u, z] → (x = u ∧ y = z) → Flies cI "badpiece" H E) ∧ (InFar [x, y] ∧ InFar [u, z] → ¬ (x = u ∧ y = z) → good sf = false → Flies cS "badsift" H E) ∧ (InFar [x, y] ∧ InFar [u, z] → ¬ (x = u ∧ y = z) → good sf = true → 12 ≤ ts.length → Flies cF "full" H E) ∧
  (InFar [x, y] ∧ InFar [u, z] → ¬ (x = u ∧ y = z) → good sf = true → ts.length < 12 → ∀ (th : Addr) (H1 : Hp), Ex H H1 → PaneA H1 th x y u z sf → RetPt kvs ts ls cs lk "pane" n (.ref th) K H1 Q)
section
variable {P : Program} {w : World} {K : PySem.W.Frag} {mg : Str → Option Value} {base : Heap} {f cP cB cF cI cS : Addr} {fd : FuncData}
abbrev sDoPost : Stmt := top 83
theorem scDoPost : FnScope ["state", "left", "low", "right", "high"] ["state", "left", "low", "right", "high"] (defScope sDoPost) := ⟨rfl, rfl, rfl, by decide +kernel, rfl, by decide +kernel, by decide +kernel⟩
theorem ok_doPost (F : FnP K "do_post" sDoPost f fd) (O_check_place : OwnX P w K mg base 3 "check_place" ["place"] [] (spPlace K cP)) (Er_BadBlock : ErrF P w K mg base 1 "BadBlock" cB "badblock") (O_put : OwnX P w K mg base 4 "put" ["state", "sort", "thing"] [] (spPut K cF)) : FnOk P w K mg base (L2.CX P w) 5 f fd ["state", "left", "low", "right", "high"] (spDoPost K cP cB cF) := by
  have nd := scDoPost.nd
  refine F.ok scDoPost (fun vs H Q E h => ?_) (fun cdv A outer s H vs Q E hr h => ⟨_, (pss_cons (ps_expr (Hs.pe_ownT O_check_place hr (by decide) (by rfl) (passes_call (takes_of rfl rfl rfl rfl) (fun _ _ _ _ h => h)) (pa_cons (pe_tup (pa_cons (pv 1) (pa_cons (pv 2) (pa_cons (pv 3) (pa_cons (pv 4) pa_nil))))) pa_nil)))
  (pss_cons (ps_if (PW.pt (pw_or (pt_cmpR op_gt (pv 1) (pv 3) (nomark _)) (pw_or1 (pt_cmpR op_gt (pv 2) (pv 4) (nomark _))))) (pss_one (ps_raise rfl (takes_of rfl rfl rfl rfl) (Hs.pmk_err Er_BadBlock hr (by decide) (by rfl)))) pss_nil)
  (pss_one (ps_ret (Hs.pe_ownT O_put hr (by decide) (by rfl) (passes_call (takes_of rfl rfl rfl rfl) (fun _ _ _ _ h => h)) (pa_cons (pv 0) (pa_cons pe_str (pa_cons (pe_tup (pa_cons (pv 1) (pa_cons (pv 2) (pa_cons (pv 3) (pa_cons (pv 4) pa_nil))))) pa_nil)))))))), ?_⟩)
  · obtain ⟨s, fl, lk, cm, b, kvs, ls, cs, ts, n, x, y, u, z, rfl, _⟩ := h
    rfl
  · obtain ⟨s, fl, lk, cm, b, kvs, ls, cs, ts, n, x, y, u, z, rfl, S, hv, hb, hn, l1, l2, l3, kP, kB, kF, k⟩ := h
    refine ⟨_, rfl, _, rfl, _, rfl, _, rfl, sz_of (by simp), fun t1 ht1 => ⟨t1, [x, y, u, z], rfl, st_of upd_same, by simp, by simp, fun h => (kP h).ext (Ex.new ht1), fun hF H1 e1 => ?_⟩⟩
    have e01 := (Ex.new (o := .tup [V.int x, .int y, .int u, .int z]) ht1).trans e1
    dsimp only
    refine q_when (et_or (a := decide (x > u)) (b := decide (y > z)) (et_test (ev_op (ev_var (v := .int x) rfl) (ev_var (v := .int u) rfl) rv_I0)) fun _ => et_test (ev_op (ev_var (v := .int y) rfl) (ev_var (v := .int z) rfl) rv_I0)) (fun ht H2 e2 => ?_) (fun ht H2 e2 => ?_)
    · refine (kB hF fun g => ?_).ext (e01.trans e2)
      simp at ht
      omega
    · have hg : x ≤ u ∧ y ≤ z := by
        simp at ht
        omega
      have e02 := e01.trans e2
      refine ⟨_, rfl, _, rfl, _, rfl, _, rfl, _, rfl, sz_of (by simp), fun th hth => ?_⟩
      have x3 := Ex.new (o := .tup (iv [x, y, u, z])) hth
      have e03 := e02.trans x3
      exact ⟨s, fl, lk, cm, b, kvs, ls, cs, ts, "post", n, .ref th, rfl, S.ext e03, hv, hb.ext e03, hn, l1, l2, l3, fun h => (kF hF hg h).ext e03, fun h => k hF hg h th _ e03 upd_same⟩
abbrev sDoPane : Stmt := top 84
theorem scDoPane : FnScope ["state", "across", "up", "other_across", "other_up", "sift", "piece"] ["state", "across", "up", "other_across", "other_up", "sift"] (defScope sDoPane) := ⟨rfl, rfl, rfl, by decide +kernel, rfl, by decide +kernel, by decide +kernel⟩
theorem ok_doPane (F : FnP K "do_pane" sDoPane f fd) (O_check_place : OwnX P w K mg base 3 "check_place" ["place"] [] (spPlace K cP)) (Er_BadPiece : ErrF P w K mg base 1 "BadPiece" cI "badpiece") (O_check_sift : OwnX P w K mg base 3 "check_sift" ["sift"] [] (spCheck cS)) (O_put : OwnX P w K mg base 4 "put" ["state", "sort", "thing"] [] (spPut K cF)) : FnOk P w K mg base (L2.CX P w) 5 f fd ["state", "across", "up", "other_across", "other_up", "sift"] (spDoPane K cP cI cS cF) := by
  have nd := scDoPane.nd
  refine F.ok scDoPane (fun vs H Q E h => ?_) (fun cdv A outer s H vs Q E hr h => ⟨_, (pss_cons (ps_set (i := 6) nd rfl (.inl rfl) (pe_tup (pa_cons (pe_tup (pa_cons (pv 1) (pa_cons (pv 2) pa_nil))) (pa_cons (pe_tup (pa_cons (pv 3) (pa_cons (pv 4) pa_nil))) pa_nil))))
  (pss_cons (ps_expr (Hs.pe_ownT O_check_place hr (by decide) (by rfl) (passes_call (takes_of rfl rfl rfl rfl) (fun _ _ _ _ h => h)) (pa_cons (pe_ix (r := rIxT K) ix_tup (pv 6) pe_int (fun _ _ => rfl)) pa_nil)))
  (pss_cons (ps_expr (Hs.pe_ownT O_check_place hr (by decide) (by rfl) (passes_call (takes_of rfl rfl rfl rfl) (fun _ _ _ _ h => h)) (pa_cons (pe_ix (r := rIxT K) ix_tup (pv 6) pe_int (fun _ _ => rfl)) pa_nil)))
  (pss_cons (ps_if (pt_cmpR (op_eqD hr.units) (pe_ix (r := rIxT K) ix_tup (pv 6) pe_int (fun _ _ => rfl)) (pe_ix (r := rIxT K) ix_tup (pv 6) pe_int (fun _ _ => rfl)) (nomark _)) (pss_one (ps_raise rfl (takes_of rfl rfl rfl rfl) (Hs.pmk_err Er_BadPiece hr (by decide) (by rfl)))) pss_nil)
  (pss_cons (ps_expr (Hs.pe_ownT O_check_sift hr (by decide) (by rfl) (passes_call (takes_of rfl rfl rfl rfl) (fun _ _ _ _ h => h)) (pa_cons (pv 5) pa_nil)))
  (pss_one (ps_ret (Hs.pe_ownT O_put hr (by decide) (by rfl) (passes_call (takes_of rfl rfl rfl rfl) (fun _ _ _ _ h => h)) (pa_cons (pv 0) (pa_cons pe_str (pa_cons (pe_tup (pa_cons (pv 6) (pa_cons (pv 5) pa_nil))) pa_nil))))))))))), ?_⟩)
  · obtain ⟨s, fl, lk, cm, b, kvs, ls, cs, ts, n, x, y, u, z, sf, rfl, _⟩ := h
    rfl
  · obtain ⟨s, fl, lk, cm, b, kvs, ls, cs, ts, n, x, y, u, z, sf, rfl, S, hv, hb, hn, l1, l2, l3, kP, kI, kS, kF, k⟩ := h
    refine ⟨_, rfl, _, rfl, sz_of (by simp), fun t1 ht1 => ⟨_, rfl, _, rfl, sz_of (by simp), fun t2 ht2 => ⟨sz_of (by simp), fun pc hpc => ?_⟩⟩⟩
    have x3 := Ex.new (o := .tup [V.ref t1, .ref t2]) hpc
    have x2 := (Ex.new (o := .tup (iv [u, z])) ht2).trans x3
    have x1 := (Ex.new (o := .tup (iv [x, y])) ht1).trans x2
    have h1 := x2 _ _ (upd_same (H := H) (a := t1) (o := .tup (iv [x, y])))
    have h2 := x3 _ _ (upd_same (a := t2) (o := .tup (iv [u, z])))
    dsimp only [gName, List.set]
    have at0 : atI [V.ref t1, .ref t2] 0 = some (.ref t1) := rfl
    have at1 : atI [V.ref t1, .ref t2] 1 = some (.ref t2) := rfl
    refine ⟨_, rfl, pc, _, 0, _, rfl, rfl, st_of upd_same, at0, t1, [x, y], rfl, st_of h1, by simp, by simp, fun h => (kP fun g => h g.1).ext x1, fun hF1 H1 e1 => ?_⟩
    have e01 := x1.trans e1
    refine ⟨_, rfl, pc, _, 1, _, rfl, rfl, st_of (e1 _ _ upd_same), at1, t2, [u, z], rfl, st_of (e1 _ _ h2), by simp, by simp, fun h => (kP fun g => h g.2).ext e01, fun hF2 H2 e2 => ?_⟩
    have e12 := e1.trans e2
    have e02 := x1.trans e12
    have hF : InFar [x, y] ∧ InFar [u, z] := ⟨hF1, hF2⟩
    have hp2 := e12 _ _ (upd_same (a := pc) (o := .tup [V.ref t1, .ref t2]))
    dsimp only
    refine q_when (b := decide (((x, y) : Pt) = (u, z))) (et_test (ev_eqPt (x := (x, y)) (y := (u, z)) (ev_ixt (by rfl) (st_of hp2) at0) (ev_ixt (by rfl) (st_of hp2) at1) (st_of (e12 _ _ h1)) (st_of (e12 _ _ h2)))) (fun ht H3 e3 => ?_) (fun ht H3 e3 => ?_)
    · have ez := of_decide_eq_true ht
      exact (kI hF ⟨congrArg Prod.fst ez, congrArg Prod.snd ez⟩).ext (e02.trans e3)
    · have hne : ¬ (x = u ∧ y = z) := fun g => of_decide_eq_false ht (by rw [g.1, g.2])
      have e03 := e02.trans e3
      refine ⟨_, rfl, sf, rfl, fun hg => (kS hF hne hg).ext e03, fun hg H4 e4 => ?_⟩
      have e04 := e03.trans e4
      have e14 := e12.trans (e3.trans e4)
      refine ⟨_, rfl, _, rfl, _, rfl, sz_of (by simp), fun th hth => ?_⟩
      have x5 := Ex.new (o := .tup [V.ref pc, .str sf]) hth
      have e05 := e04.trans x5
      exact ⟨s, fl, lk, cm, b, kvs, ls, cs, ts, "pane", n, .ref th, rfl, S.ext e05, hv, hb.ext e05, hn, l1, l2, l3, fun h => (kF hF hne hg h).ext e05, fun h => k hF hne hg h th _ e05 ⟨pc, t1, t2, upd_same, (e14.trans x5) _ _ upd_same, (e14.trans x5) _ _ h1, (e14.trans x5) _ _ h2⟩⟩
end
end Hs
namespace Hs
open PySem PySem.Spec PyProof.Rows L2 Evl
/-! ### a house with lamps of one choice each, and nothing else -/
def fldsH (s p q : Addr) : List (Str × V) := [("state", .ref s), ("past", .ref p), ("ahead", .ref q), ("trying", .bl false)]
def comV (n : Int) : List (Key × V) := [(.inr "lamp", .int n), (.inr "post", .int 1), (.inr "pane", .int 1), (.inr "look", .int 1)]
/-- tuples and what is frozen stay -/
structure Kp (H H' : Hp) : Prop where
  t : ∀ a xs, H a = some (.tup xs) → H' a = some (.tup xs)
  f : ∀ a od o, H a = some (.frz od o) → H' a = some (.frz od o)
theorem Kp.of {H H' : Hp} (e : Ex H H') : Kp H H' := ⟨fun _ _ h => e _ _ h, fun _ _ _ h => e _ _ h⟩
theorem Kp.ofN {H H' : Hp} (e : LamX.ExtN H H') : Kp H H' := ⟨fun _ _ h => e _ _ h (fun _ z => by cases z), fun _ _ _ h => e _ _ h (fun _ z => by cases z)⟩
theorem Kp.but {H H' : Hp} {b : Addr} {xs : List V} (hb : H b = some (.lst xs)) (e : But H H' b) : Kp H H' := ⟨fun _ _ h => e _ _ h (ne_of h hb (by intro z; cases z)), fun _ _ _ h => e _ _ h (ne_of h hb (by intro z; cases z))⟩
theorem Kp.upd {H : Hp} {b : Addr} {xs : List V} {o : HO} (hb : H b = some (.lst xs)) : Kp H (L2.upd H b o) := Kp.but hb (But.upd But.refl)
theorem Kp.fz {H H' : Hp} {a : Addr} {kvs : List (Key × V)} (e : Kp H H') (h : Fz H a kvs) : Fz H' a kvs := let ⟨od, h⟩ := h; ⟨od, e.f _ _ _ h⟩
theorem Kp.sqt {K : PySem.W.Frag} {H H' : Hp} {a : Addr} {xs : List V} (e : Kp H H') (h : SqT K H a xs) : SqT K H' a xs := by
  rcases h with (h | ⟨od, h⟩) | h
  · exact .inl (.inl (e.t _ _ h))
  · exact .inl (.inr ⟨od, e.f _ _ _ h⟩)
  · exact .inr h
theorem Kp.tup {H H' : Hp} {a : Addr} {xs : List V} (e : Kp H H') (h : H a = some (.tup xs)) : H' a = some (.tup xs) := e.t _ _ h
theorem Kp.lamps {H H' : Hp} {ts : List (Key × V)} {ls : List (List Chc × Bool)} (e : Kp H H') (h : LampsG H ts ls) : LampsG H' ts ls := h.keep fun _ _ z => e.tup z
theorem Kp.sta {K : PySem.W.Frag} {H H' : Hp} {s fl lk cm : Addr} {kvs ls cs : List (Key × V)} (e : Kp H H') (h : StA K H s fl lk cm kvs ls cs) : StA K H' s fl lk cm kvs ls cs := ⟨e.sqt h.t, e.fz h.f, e.fz h.l, e.fz h.c⟩
def KeysUp (ts : List (Key × V)) : Prop := ts.map (·.1) = (List.range ts.length).map fun i : Nat => (Sum.inl ((i : Int) + 1) : Key)
theorem KeysUp.at {ts : List (Key × V)} (h : KeysUp ts) {i : Nat} (hi : i < ts.length) : ts[i].1 = Sum.inl ((i : Int) + 1) := by
  have e : (ts.map (·.1))[i]? = ((List.range ts.length).map fun i : Nat => (Sum.inl ((i : Int) + 1) : Key))[i]? := by rw [← h]
  rw [List.getElem?_map, List.getElem?_map, List.getElem?_eq_getElem hi, List.getElem?_range hi] at e
  exact Option.some.inj e
theorem KeysUp.new {ts : List (Key × V)} (h : KeysUp ts) {v : V} : putK ts (.inl ((ts.length : Int) + 1)) v = ts ++ [(.inl ((ts.length : Int) + 1), v)] := by
  refine putK_new fun p hp e => ?_
  have hm : p.1 ∈ ts.map (·.1) := List.mem_map.mpr ⟨p, hp, rfl⟩
  rw [h, e] at hm
  obtain ⟨i, hi, e2⟩ := List.mem_map.mp hm
  have hi := List.mem_range.mp hi
  have e3 : (i : Int) + 1 = (ts.length : Int) + 1 := Sum.inl.inj e2
  omega
theorem KeysUp.snoc {ts : List (Key × V)} (h : KeysUp ts) {v : V} : KeysUp (ts ++ [(.inl ((ts.length : Int) + 1), v)]) := by
  unfold KeysUp
  rw [List.map_append, h, List.length_append, List.length_singleton, List.range_succ, List.map_append] <;> rfl
theorem KeysUp.set {ts : List (Key × V)} (h : KeysUp ts) {i : Nat} {v : V} (hi : i < ts.length) : KeysUp (ts.set i (.inl ((i : Int) + 1), v)) := by
  unfold KeysUp
  rw [List.length_set, ← h, List.map_set]
  refine List.ext_getElem? fun j => ?_
  rw [List.getElem?_set]
  by_cases e : i = j
  · subst e
    rw [if_pos rfl, if_pos (by rw [List.length_map]; exact hi), List.getElem?_map, List.getElem?_eq_getElem hi]
    show some (Sum.inl ((i : Int) + 1)) = some ts[i].1
    rw [h.at hi]
  · rw [if_neg e]
theorem LampsG.snoc {H : Hp} {ts : List (Key × V)} {ls : List (List Chc × Bool)} {k : Key} {th : Addr} {z : List Chc × Bool} (h : LampsG H ts ls) (l : LampG H th z.1 z.2) : LampsG H (ts ++ [(k, .ref th)]) (ls ++ [z]) := by
  refine ⟨by rw [List.length_append, List.length_append, h.1] <;> rfl, fun j k' v z' hp hr => ?_⟩
  by_cases hj : j < ts.length
  · rw [List.getElem?_append_left hj] at hp
    rw [List.getElem?_append_left (by rw [← h.1]; exact hj)] at hr
    exact h.2 j k' v z' hp hr
  · rw [List.getElem?_append_right (by omega)] at hp
    rw [List.getElem?_append_right (by rw [← h.1]; omega), ← h.1] at hr
    have e0 : j - ts.length = 0 := by
      have : j - ts.length < 1 := (List.getElem?_eq_some_iff.mp hp).1
      omega
    rw [e0] at hp hr
    cases hp
    cases hr
    exact ⟨th, rfl, l⟩
theorem LampsG.set {H : Hp} {ts : List (Key × V)} {ls : List (List Chc × Bool)} {k : Key} {th : Addr} {z : List Chc × Bool} {i : Nat} (h : LampsG H ts ls) (l : LampG H th z.1 z.2) : LampsG H (ts.set i (k, .ref th)) (ls.set i z) := by
  refine ⟨by rw [List.length_set, List.length_set, h.1], fun j k' v z' hp hr => ?_⟩
  rw [List.getElem?_set] at hp hr
  by_cases e : i = j
  · rw [if_pos e] at hp hr
    by_cases hi : i < ts.length
    · rw [if_pos hi] at hp
      rw [if_pos (by rw [← h.1]; exact hi)] at hr
      cases hp
      cases hr
      exact ⟨th, rfl, l⟩
    · rw [if_neg hi] at hp
      cases hp
  · rw [if_neg e] at hp hr
    exact h.2 j k' v z' hp hr
theorem LampA.g {H : Hp} {th : Addr} {on : Bool} {x y r g u : Int} (h : LampA H th on [x, y, r, g, u]) : LampG H th [(x, y, (r, g, u))] on := by
  obtain ⟨ch, c1, h1, h2, h3⟩ := h.ex
  refine ⟨ch, [c1], h1, h2, rfl, fun i p c hp hc => ?_⟩
  match i, hp, hc with
  | 0, hp, hc =>
    cases hp
    cases hc
    exact h3
  | i + 1, hp, hc => cases hp
/-- the house at h, its past at p, what is ahead at q; at most m deeds -/
structure HsA (K : PySem.W.Frag) (C : Addr) (H : Hp) (h dx p q : Addr) (m : Nat) (ls : List (List Chc × Bool)) : Prop where
  ex : ∃ (s fl lk cm b q2 q3 : Addr) (ts : List (Key × V)) (ps : List V), H h = some (.ins C dx (fldsH s p q)) ∧ H p = some (.lst ps) ∧ ps.length ≤ m ∧ H q = some (.lst []) ∧ p ≠ q ∧ StA K H s fl lk cm (bareV b q2 q3) [] (comV ((ls.length : Int) + 1)) ∧ Fz H b ts ∧ Fz H q2 [] ∧ Fz H q3 [] ∧ LampsG H ts ls ∧ KeysUp ts
  one : ∀ z ∈ ls, z.1.length = 1
  few : ls.length ≤ 1000
theorem HsA.keep {K : PySem.W.Frag} {C : Addr} {H H' : Hp} {h dx p q : Addr} {m m' : Nat} {ls : List (List Chc × Bool)} (a : HsA K C H h dx p q m ls) (e : Kp H H') (eh : ∀ o, H h = some o → H' h = some o) (ep : ∀ o, H p = some o → H' p = some o) (eq : ∀ o, H q = some o → H' q = some o) (hm : m ≤ m') : HsA K C H' h dx p q m' ls := by
  obtain ⟨s, fl, lk, cm, b, q2, q3, ts, ps, h1, h2, h3, h4, h5, h6, h7, h8, h9, h10, h11⟩ := a.ex
  exact ⟨⟨s, fl, lk, cm, b, q2, q3, ts, ps, eh _ h1, ep _ h2, by omega, eq _ h4, h5, e.sta h6, e.fz h7, e.fz h8, e.fz h9, e.lamps h10, h11⟩, a.one, a.few⟩
theorem HsA.ext {K : PySem.W.Frag} {C : Addr} {H H' : Hp} {h dx p q : Addr} {m : Nat} {ls : List (List Chc × Bool)} (a : HsA K C H h dx p q m ls) (e : Ex H H') : HsA K C H' h dx p q m ls := a.keep (Kp.of e) (fun _ z => e _ _ z) (fun _ z => e _ _ z) (fun _ z => e _ _ z) (Nat.le_refl _)
theorem HsA.ins {K : PySem.W.Frag} {C : Addr} {H : Hp} {h dx p q : Addr} {m : Nat} {ls : List (List Chc × Bool)} (a : HsA K C H h dx p q m ls) : ∃ fs, H h = some (.ins C dx fs) ∧ fs.lookup ("lamp" : Str) = none ∧ fs.lookup ("switch" : Str) = none ∧ fs.lookup ("light" : Str) = none := by
  obtain ⟨s, fl, lk, cm, b, q2, q3, ts, ps, h1, _⟩ := a.ex
  exact ⟨_, h1, rfl, rfl, rfl⟩
theorem HsA.lsts {K : PySem.W.Frag} {C : Addr} {H : Hp} {h dx p q : Addr} {m : Nat} {ls : List (List Chc × Bool)} (a : HsA K C H h dx p q m ls) : (∃ xs, H p = some (.lst xs)) ∧ ∃ xs, H q = some (.lst xs) := by
  obtain ⟨s, fl, lk, cm, b, q2, q3, ts, ps, _, h2, _, h4, _⟩ := a.ex
  exact ⟨⟨_, h2⟩, _, h4⟩
/-- all but the house, its past and what is ahead -/
def Kept (H H' : Hp) (h p q : Addr) : Prop := ∀ a o, H a = some o → a ≠ h → a ≠ p → a ≠ q → H' a = some o
/-- a house made -/
theorem HsA.made {K : PySem.W.Frag} {C : Addr} {H : Hp} {h dx s p q : Addr} (hh : H h = some (.ins C dx [("state", .ref s), ("past", .ref p), ("ahead", .ref q), ("trying", .bl false)])) (hp : H p = some (.lst [])) (hq : H q = some (.lst [])) (hn : p ≠ q) (f : FirstA K H s) : HsA K C H h dx p q 0 [] := by
  obtain ⟨fl, lk, cm, q1, q2, q3, h1, h2, h3, h4, h5, h6, h7⟩ := f.ex
  exact ⟨⟨s, fl, lk, cm, q1, q2, q3, [], [], hh, hp, Nat.le_refl _, hq, hn, ⟨st_of h1, h2, h3, h4⟩, h5, h6, h7, ⟨rfl, fun i k v z hz => by cases hz⟩, rfl⟩, (fun z hz => by cases hz), Nat.zero_le _⟩
/-- what a deed of the house leaves -/
theorem deed_kept {H0 H4 : Hp} {h p q t : Addr} {o1 o2 o3 o4 : HO} (e : Ex H0 H4) (ht : H4 t = none) : Kept H0 (upd (upd (upd (upd H4 t o1) p o2) q o3) h o4) h p q := fun a o ha h1 h2 h3 => by
  rw [upd_ne h1, upd_ne h3, upd_ne h2, upd_ne (ne_of_none (e _ _ ha) ht)]
  exact e _ _ ha
theorem Kept.kp {H H' : Hp} {h p q C dx : Addr} {fs : List (Str × V)} {ps qs : List V} (k : Kept H H' h p q) (hh : H h = some (.ins C dx fs)) (hp : H p = some (.lst ps)) (hq : H q = some (.lst qs)) : Kp H H' :=
  ⟨fun _ _ ha => k _ _ ha (ne_of ha hh (by intro z; cases z)) (ne_of ha hp (by intro z; cases z)) (ne_of ha hq (by intro z; cases z)), fun _ _ _ ha => k _ _ ha (ne_of ha hh (by intro z; cases z)) (ne_of ha hp (by intro z; cases z)) (ne_of ha hq (by intro z; cases z))⟩
theorem deed_kp {H4 : Hp} {h p q t C dx : Addr} {fs : List (Str × V)} {ps qs : List V} {o1 o2 o3 o4 : HO} (hh : H4 h = some (.ins C dx fs)) (hp : H4 p = some (.lst ps)) (hq : H4 q = some (.lst qs)) (ht : H4 t = none) : Kp H4 (upd (upd (upd (upd H4 t o1) p o2) q o3) h o4) := (deed_kept (Ex.refl H4) ht).kp hh hp hq
/-- what the table of doers says of a word -/
structure DoerA (K : PySem.W.Frag) (dF dD : Addr) (S : Addr → Option Sp) (wd fm : Str) (sp : Sp) : Prop where
  ex : ∃ (tk : Tok) (f : Addr), PySem.W.nsIn K dF wd = some (some (.str fm tk)) ∧ PySem.W.nsIn K dD wd = some (some (.ref f)) ∧ S f = some sp
end Hs
namespace Hs
open PySem PySem.Spec PyProof.Rows L2 Evl
/-! ### a house with lamps of one choice each, posts and panes -/
def comB (a b c : Int) : List (Key × V) := [(.inr "lamp", .int a), (.inr "post", .int b), (.inr "pane", .int c), (.inr "look", .int 1)]
theorem Kp.figv {K : PySem.W.Frag} {n : Nat} {H H' : Hp} {v : V} {F : Fig} (e : Kp H H') (h : FigV K n H v F) : FigV K n H' v F := by
  cases F with
  | post B =>
    obtain ⟨p, rfl, hp⟩ := h
    exact ⟨p, rfl, e.sqt hp.1, hp.2⟩
  | pane a b z =>
    obtain ⟨p, q, rfl, hp, c, d, g1, g2, g3⟩ := h
    exact ⟨p, q, rfl, e.sqt hp, c, d, e.sqt g1, ⟨e.sqt g2.1, g2.2⟩, ⟨e.sqt g3.1, g3.2⟩⟩
theorem Kp.things {K : PySem.W.Frag} {n : Nat} {H H' : Hp} {ts : List (Key × V)} {Fs : List Fig} (e : Kp H H') (h : ThingsA K n H ts Fs) : ThingsA K n H' ts Fs := ⟨h.1, fun i k v F h1 h2 => let ⟨a, b⟩ := h.2 i k v F h1 h2; ⟨a, e.figv b⟩⟩
theorem ThingsA.snoc {K : PySem.W.Frag} {n : Nat} {H : Hp} {ts : List (Key × V)} {Fs : List Fig} {num : Int} {v : V} {F : Fig} (h : ThingsA K n H ts Fs) (l : FigV K n H v F) : ThingsA K n H (ts ++ [(.inl num, v)]) (Fs ++ [F]) := by
  refine ⟨by rw [List.length_append, List.length_append, h.1] <;> rfl, fun j k' v' F' hp hr => ?_⟩
  by_cases hj : j < ts.length
  · rw [List.getElem?_append_left hj] at hp
    rw [List.getElem?_append_left (by rw [← h.1]; exact hj)] at hr
    exact h.2 j k' v' F' hp hr
  · rw [List.getElem?_append_right (by omega)] at hp
    rw [List.getElem?_append_right (by rw [← h.1]; omega), ← h.1] at hr
    have e0 : j - ts.length = 0 := by
      have : j - ts.length < 1 := (List.getElem?_eq_some_iff.mp hp).1
      omega
    rw [e0] at hp hr
    cases hp
    cases hr
    exact ⟨⟨num, rfl⟩, l⟩
structure HsB (K : PySem.W.Frag) (C : Addr) (n : Nat) (H : Hp) (h dx p q : Addr) (m : Nat) (ls : List (List Chc × Bool)) (F2 F3 : List Fig) : Prop where
  ex : ∃ (s fl lk cm b q2 q3 : Addr) (ts t2 t3 : List (Key × V)) (ps : List V), H h = some (.ins C dx (fldsH s p q)) ∧ H p = some (.lst ps) ∧ ps.length ≤ m ∧ H q = some (.lst []) ∧ p ≠ q ∧ StA K H s fl lk cm (bareV b q2 q3) [] (comB ((ls.length : Int) + 1) ((F2.length : Int) + 1) ((F3.length : Int) + 1)) ∧ Fz H b ts ∧ Fz H q2 t2 ∧ Fz H q3 t3 ∧ (LampsG H ts ls ∧ KeysUp ts) ∧ (ThingsA K n H t2 F2 ∧ KeysUp t2) ∧ ThingsA K n H t3 F3 ∧ KeysUp t3
  one : ∀ z ∈ ls, z.1.length = 1
  few : ls.length ≤ 12 ∧ F2.length ≤ 12 ∧ F3.length ≤ 12
theorem HsB.keep {K : PySem.W.Frag} {C : Addr} {n : Nat} {H H' : Hp} {h dx p q : Addr} {m m' : Nat} {ls : List (List Chc × Bool)} {F2 F3 : List Fig} (a : HsB K C n H h dx p q m ls F2 F3) (e : Kp H H') (eh : ∀ o, H h = some o → H' h = some o) (ep : ∀ o, H p = some o → H' p = some o) (eq : ∀ o, H q = some o → H' q = some o) (hm : m ≤ m') : HsB K C n H' h dx p q m' ls F2 F3 := by
  obtain ⟨s, fl, lk, cm, b, q2, q3, ts, t2, t3, ps, h1, h2, h3, h4, h5, h6, h7, h8, h9, ⟨h10, h11⟩, ⟨h12, h13⟩, h14, h15⟩ := a.ex
  exact ⟨⟨s, fl, lk, cm, b, q2, q3, ts, t2, t3, ps, eh _ h1, ep _ h2, by omega, eq _ h4, h5, e.sta h6, e.fz h7, e.fz h8, e.fz h9, ⟨e.lamps h10, h11⟩, ⟨e.things h12, h13⟩, e.things h14, h15⟩, a.one, a.few⟩
theorem HsB.made {K : PySem.W.Frag} {C : Addr} {n : Nat} {H : Hp} {h dx s p q : Addr} (hh : H h = some (.ins C dx [("state", .ref s), ("past", .ref p), ("ahead", .ref q), ("trying", .bl false)])) (hp : H p = some (.lst [])) (hq : H q = some (.lst [])) (hn : p ≠ q) (f : FirstA K H s) : HsB K C n H h dx p q 0 [] [] [] := by
  obtain ⟨fl, lk, cm, q1, q2, q3, h1, h2, h3, h4, h5, h6, h7⟩ := f.ex
  exact ⟨⟨s, fl, lk, cm, q1, q2, q3, [], [], [], [], hh, hp, Nat.le_refl _, hq, hn, ⟨st_of h1, h2, h3, h4⟩, h5, h6, h7, ⟨⟨rfl, fun i k v z hz => by cases hz⟩, rfl⟩, ⟨⟨rfl, fun i k v z hz => by cases hz⟩, rfl⟩, ⟨rfl, fun i k v z hz => by cases hz⟩, rfl⟩, (fun z hz => by cases hz), ⟨Nat.zero_le _, Nat.zero_le _, Nat.zero_le _⟩⟩
/-! ### deeds that put a thing -/
inductive Deed where
  | lamp (c : Chc)
  | post (B : Blk)
  | pane (a b : Pt) (z : Str)
def Deed.vals : Deed → List V
  | .lamp c => .str "lamp" :: chv c
  | .post B => .str "post" :: iv [B.left, B.low, B.right, B.high]
  | .pane a b z => [.str "pane", .int a.1, .int a.2, .int b.1, .int b.2, .str z]
def Deed.good (n : Nat) : Deed → Prop
  | .lamp c => InFar [c.1, c.2.1] ∧ InLit 1000000 [c.2.2.1, c.2.2.2.1, c.2.2.2.2]
  | .post B => InFar [B.left, B.low, B.right, B.high] ∧ (B.left ≤ B.right ∧ B.low ≤ B.high) ∧ BdB n B
  | .pane a b z => (InFar [a.1, a.2] ∧ InFar [b.1, b.2]) ∧ ¬ (a.1 = b.1 ∧ a.2 = b.2) ∧ Hs.good z = true ∧ (Bd n a.1 ∧ Bd n a.2) ∧ Bd n b.1 ∧ Bd n b.2
def Deed.lamps (ls : List (List Chc × Bool)) : Deed → List (List Chc × Bool)
  | .lamp c => ls ++ [([c], true)]
  | _ => ls
def Deed.posts (Fs : List Fig) : Deed → List Fig
  | .post B => Fs ++ [.post B]
  | _ => Fs
def Deed.panes (Fs : List Fig) : Deed → List Fig
  | .pane a b z => Fs ++ [.pane a b z]
  | _ => Fs
end Hs
namespace Hs
open PySem PySem.Spec PyProof.Rows L2 Evl
/-! ### one of a list, a block that is drawn -/
def NearB (B : Blk) : Prop := (B.left.natAbs ≤ 1000000 ∧ B.low.natAbs ≤ 1000000) ∧ B.right.natAbs ≤ 1000000 ∧ B.high.natAbs ≤ 1000000
def spBlock : Sp := fun vs H Q _ => ∃ (b l g : Addr) (ns : List Int) (n : Nat) (w x y : Int), vs = [.ref b, .ref g] ∧ BagAt H b l ns n ∧ n < 800000 ∧ H g = some (.tup [.int w, .int x, .int y]) ∧ Grid w x y ∧
  ∀ (t : Addr) (B : Blk) (H' : Hp), Vb B → NearB B → H' t = some (.tup (blV B)) → BagAt H' b l ns (n + 8) → But H H' b → Q (.ref t) H'
section
variable {K : PySem.W.Frag} {σ : L2.St} {H : Hp} {tl : TE} {tu tz : TS} {D : Ends}
theorem q_forNTn {xs : List V} {j : Nat} (h : EvU tl σ H xs) (Pv : Addr → Nat → L2.St → Hp → Prop) (h0 : ∀ p H1, H p = none → Ex H H1 → H1 p = some (.tup xs) → Pv p 0 σ H1) (hl : ∀ p i σ' H', i ≤ xs.length → Pv p i σ' H' → SqT K H' p xs)
    (hs : ∀ p i x σ' H', xs[i]? = some x → Pv p i σ' H' → tu { D with nx := Pv p (i + 1), ct := Pv p (i + 1), bk := tz D } (σ'.set j (some x)) H') (hd : ∀ p σ' H', Pv p xs.length σ' H' → tz D σ' H') : tSeq (tFor (iTup K tl) (gName j) tu) tz D σ H := by
  refine h H (Ex.refl H) _ fun p H1 hp e1 h1 => ⟨p, rfl, ⟨xs, st_of h1⟩, ?_⟩
  refine for_it (D := { D with nx := tz D }) (walk_tup (K := K) (a := p) (xs := xs)) (Pv p) (h0 p H1 hp e1 h1) (fun i σ' H' hi q => hl p i σ' H' hi q) (fun i x σ' H' H'' hi q y => ?_) (hd p)
  obtain ⟨rfl, hx⟩ := y
  exact hs p i x σ' _ hx q
end
section
variable {P : Program} {w : World} {K : PySem.W.Frag} {mg : Str → Option Value} {base : Heap} {f : Addr} {fd : FuncData}
abbrev sBlock : Stmt := top 115
theorem scBlock : FnScope ["_law_bag_here", "_law_grid_here", "_law_left", "_law_low", "_law_found", "_law_begin"] ["_law_bag_here", "_law_grid_here"] (defScope sBlock) := ⟨rfl, rfl, rfl, by decide +kernel, rfl, by decide +kernel, by decide +kernel⟩
theorem ok_block (F : FnP K "_law_block" sBlock f fd) (O__law_pull : Own P w K mg base 1 "_law_pull" ["_law_bag_here", "_law_many"] spPull) (O__law_spot : Own P w K mg base 2 "_law_spot" ["_law_bag_here", "_law_grid_here"] spSpot) (g_min : mg "min" = none) : FnOk P w K mg base CX0 3 f fd ["_law_bag_here", "_law_grid_here"] spBlock := by
  have nd := scBlock.nd
  refine F.ok scBlock (fun vs H Q E h => ?_) (fun cdv A outer s H vs Q E hr h => ⟨_, PSs.nox (pss_cons (ps_asg (Hs.pe_own O__law_spot hr (by first | decide | omega) (by rfl) (pa_cons (pv 0) (pa_cons (pv 1) pa_nil))) (pg_tup rfl (pgs_cons (pg_name (i := 2) nd rfl (.inl rfl)) (pgs_cons (pg_name (i := 3) nd rfl (.inl rfl)) pgs_nil))))
  (pss_cons (ps_set (i := 4) nd rfl (.inl rfl) (pe_lst pa_nil))
  (pss_cons (ps_for PassesOwn.never rfl (pi_tup (pe_tup (pa_cons (pv 2) (pa_cons (pv 3) pa_nil)))) (pg_name (i := 5) nd rfl (.inl rfl)) (pss_one (ps_expr (pe_bm PySem.F.plainAttrs_list PySem.F.slot_list_append PySem.F.type_list_append mt_append (pv 4) (pa_cons (pe_callB (call_min2 rfl) (by rfl) g_min (by decide +kernel) (pa_cons (pe_op op_pow pe_int pe_int) (pa_cons (pe_op op_add (pv 5) (pe_ix (r := rIxL K) ix_list (pe_lst (pa_cons pe_int (pa_cons (Hs.pe_own O__law_pull hr (by first | decide | omega) (by rfl) (pa_cons (pv 0) (pa_cons pe_int pa_nil))) (pa_cons (Hs.pe_own O__law_pull hr (by first | decide | omega) (by rfl) (pa_cons (pv 0) (pa_cons (pe_op op_add (pe_ix (r := rIxT K) ix_tup (pv 1) pe_int (fun _ _ => rfl)) pe_int) pa_nil))) pa_nil)))) (Hs.pe_own O__law_pull hr (by first | decide | omega) (by rfl) (pa_cons (pv 0) (pa_cons pe_int pa_nil))) (fun _ _ => rfl))) pa_nil))) pa_nil)))))
  (pss_one (ps_ret (pe_tup (pa_cons (pv 2) (pa_cons (pv 3) (pa_cons (pe_ix (r := rIxL K) ix_list (pv 4) pe_int (fun _ _ => rfl)) (pa_cons (pe_ix (r := rIxL K) ix_list (pv 4) pe_int (fun _ _ => rfl)) pa_nil)))))))))), ?_⟩)
  · obtain ⟨b, l, g, ns, n, w, x, y, rfl, _⟩ := h
    rfl
  · obtain ⟨b, l, g, ns, n, w, x, y, rfl, B, hn, hg, G, k⟩ := h
    refine ⟨_, rfl, _, rfl, b, l, g, ns, n, w, x, y, rfl, B, by omega, hg, G, fun sp z H1 hz nsp hsp B1 b1 => ?_⟩
    refine ⟨sp, _, rfl, st_of hsp, rfl, _, _, rfl, _, _, rfl, rfl, ?_⟩
    dsimp only [gName]
    refine q_asgL (xs := []) (el_lst ea_nil (by simp)) fun fl H2 nfl e2 hfl => ?_
    have B2 := B1.ext (m := n + 2) e2 (Nat.le_refl _)
    have g2 := e2 _ _ (b1.tup B hg)
    have nfb : fl ≠ b := bag_ne B1 nfl
    have nfl' : fl ≠ l := Ne.symm (ne_of_none B1.ls nfl)
    have k12 : But H H2 b := b1.ex e2
    refine q_forNTn (K := K) (xs := [.int z.1, .int z.2]) (eu_tup (ea_cons (ev_var rfl) (ea_cons (ev_var rfl) ea_nil)) (by simp)) (fun p i σ' H' => H2 p = none ∧ H' p = some (.tup [.int z.1, .int z.2]) ∧ BagAt H' b l ns (n + 2 + 3 * i) ∧ But H H' b ∧ H' g = some (.tup [.int w, .int x, .int y]) ∧ ∃ (v : Option V) (fs : List Int), σ' = [some (.ref b), some (.ref g), some (.int z.1), some (.int z.2), some (.ref fl), v] ∧ H' fl = some (.lst (fs.map V.int)) ∧ fs.length = i ∧ (∀ (j : Nat) (c d : Int), fs[j]? = some d → [z.1, z.2][j]? = some c → c ≤ d ∧ d.natAbs ≤ 1000000)) ?_ ?_ ?_ ?_
    · intro p H3 np e3 hp
      exact ⟨np, hp, B2.ext e3 (by omega), k12.ex e3, e3 _ _ g2, none, [], rfl, e3 _ _ hfl, rfl, fun j c d h => by cases h⟩
    · rintro p i σ' H' _ ⟨_, hp, _⟩
      exact st_of hp
    · rintro p i c σ' H' hc ⟨np, hp, Bi, ki, gi, v, fs, rfl, hfs, hlen, hfa⟩
      obtain ⟨cz, hcz, rfl⟩ : ∃ cz : Int, [z.1, z.2][i]? = some cz ∧ c = .int cz := by
        match i, hc with
        | 0, hc => exact ⟨z.1, rfl, (Option.some.inj hc).symm⟩
        | 1, hc => exact ⟨z.2, rfl, (Option.some.inj hc).symm⟩
      have cb : cz.natAbs ≤ 1000000 := by
        match i, hcz with
        | 0, hcz => cases hcz; exact hz.1
        | 1, hcz => cases hcz; exact hz.2
      have hi2 : i < 2 := (List.getElem?_eq_some_iff.mp hcz).1
      obtain ⟨⟨w0, w1⟩, _, _⟩ := G
      refine ⟨_, rfl, .inl ⟨rfl, _, sq_of hfs⟩, ?_⟩
      refine ⟨_, _, rfl, rfl, ⟨by decide, by decide, by decide⟩, _, rfl, _, rfl, b, l, ns, _, 3, rfl, Bi, by omega, by decide, by decide, fun u1 H3 u10 u11 B3 b3 => ⟨_, rfl, _, rfl, g, _, 0, _, rfl, rfl, st_of (b3.tup Bi gi), rfl, _, _, rfl, rfl, b, l, ns, _, _, rfl, B3, by omega, by omega, by omega, fun u2 H4 u20 u21 B4 b4 => ⟨sz_of (by simp), fun tl htl => ⟨_, rfl, b, l, ns, _, 3, rfl, B4.ext (Ex.new htl) (Nat.le_refl _), by omega, by decide, by decide, fun u3 H5 u30 u31 B5 b5 => ?_⟩⟩⟩⟩
      obtain ⟨ad, hat, ad0, ad1⟩ : ∃ ad : Int, atI [V.int 0, .int u1, .int u2] u3 = some (.int ad) ∧ 0 ≤ ad ∧ ad ≤ 100 := by
        obtain rfl | rfl | rfl : u3 = 0 ∨ u3 = 1 ∨ u3 = 2 := by omega
        · exact ⟨0, rfl, by decide, by decide⟩
        · exact ⟨u1, rfl, by omega, by omega⟩
        · exact ⟨u2, rfl, by omega, by omega⟩
      have eT := Ex.new (o := .lst [V.int 0, .int u1, .int u2]) htl
      have k35 : But H' H5 b := ((b3.trans b4).ex eT).trans b5
      have t5 := b5 _ _ (upd_same (H := H4) (a := tl) (o := .lst [V.int 0, .int u1, .int u2])) (bag_ne B4 htl)
      have f5 := k35 _ _ hfs nfb
      have t6 : (10 : Int) ^ Int.toNat 6 = 1000000 := by decide
      refine ⟨tl, _, u3, .int ad, rfl, rfl, sq_of t5, hat, _, _, rfl, rfl, _, _, rfl, fl, _, _, rfl, rfl, f5, sz_lt (by rw [List.length_map]; omega), ?_⟩
      refine ⟨np, ?_, bag_upd (B5.ext (Ex.refl _) (by omega)) (Ne.symm nfb) (Ne.symm nfl'), fun a o ha hb => ?_, ?_, _, fs ++ [if cz + ad < (10 : Int) ^ Int.toNat 6 then cz + ad else (10 : Int) ^ Int.toNat 6], rfl, by rw [upd_same, List.map_append] <;> rfl, by rw [List.length_append, hlen] <;> rfl, fun j c d hd hc' => ?_⟩
      · rw [upd_ne (ne_of (k35.tup Bi hp) f5 (by intro z; cases z))]
        exact k35.tup Bi hp
      · have hb2 : a ≠ fl := fun q => by
          rw [q, b1.fresh B1 nfl] at ha
          cases ha
        rw [upd_ne hb2]
        exact k35 _ _ (ki _ _ ha hb) hb
      · rw [upd_ne (ne_of (k35.tup Bi gi) f5 (by intro z; cases z))]
        exact k35.tup Bi gi
      · by_cases hj : j < fs.length
        · rw [List.getElem?_append_left hj] at hd
          exact hfa j c d hd hc'
        · rw [List.getElem?_append_right (by omega)] at hd
          have e0 : j - fs.length = 0 := by
            have : j - fs.length < 1 := (List.getElem?_eq_some_iff.mp hd).1
            omega
          have ej : j = i := by omega
          subst ej
          rw [e0] at hd
          rw [hcz] at hc'
          cases hc'
          have ed := (Option.some.inj hd).symm
          rw [t6] at ed
          subst ed
          split <;> omega
    · rintro p σ' H' ⟨np, hp, Bi, ki, gi, v, fs, rfl, hfs, hlen, hfa⟩
      obtain ⟨d1, d2, rfl⟩ : ∃ d1 d2, fs = [d1, d2] := match fs, hlen with
        | [d1, d2], _ => ⟨d1, d2, rfl⟩
      have q1 := hfa 0 z.1 d1 rfl rfl
      have q2 := hfa 1 z.2 d2 rfl rfl
      refine s_retU (xs := blV ⟨z.1, z.2, d1, d2⟩) (eu_tup (ea_cons (ev_var rfl) (ea_cons (ev_var rfl) (ea_cons (ev_ix rfl hfs rfl) (ea_cons (ev_ix rfl hfs rfl) ea_nil)))) (by show 4 ≤ 100000; decide)) fun t H3 nt e3 ht => ?_
      exact k t ⟨z.1, z.2, d1, d2⟩ H3 ⟨q1.1, q2.1⟩ ⟨hz, q1.2, q2.2⟩ ht (Bi.ext e3 (by show n + 2 + 3 * 2 ≤ n + 8; omega)) (ki.ex e3)
end
end Hs
namespace Hs
open PySem PySem.Spec PyProof.Rows L2 Evl
abbrev Pan := Pt × Pt × Str
end Hs
namespace Hs
open PySem PySem.Spec PyProof.Rows L2 Evl
section
variable {P : Program} {w : World} {K : PySem.W.Frag} {mg : Str → Option Value} {base : Heap} {f C S : Addr} {fd : FuncData}
def spLetters : Sp := fun vs H Q _ => ∃ (b l : Addr) (ns : List Int) (n : Nat), vs = [.ref b] ∧ BagAt H b l ns n ∧ n < 900000 ∧ ∀ (z : Str) (H' : Hp), z ∈ S8 → BagAt H' b l ns (n + 1) → But H H' b → Q (.str z) H'
def triB (x : Tri) : Prop := (0 ≤ x.1 ∧ x.1 ≤ 1000000) ∧ (0 ≤ x.2.1 ∧ x.2.1 ≤ 1000000) ∧ (0 ≤ x.2.2 ∧ x.2.2 ≤ 1000000)
def spTint : Sp := fun vs H Q _ => ∃ (b l : Addr) (ns : List Int) (n : Nat), vs = [.ref b] ∧ BagAt H b l ns n ∧ n < 900000 ∧ ∀ (p : Addr) (x : Tri) (H' : Hp), triB x → H p = none → H' p = some (.tup (tri x)) → BagAt H' b l ns (n + 6) → But H H' b → Q (.ref p) H'
abbrev sLetters : Stmt := top 116
theorem scLetters : FnScope ["_law_bag_here"] ["_law_bag_here"] (defScope sLetters) := ⟨rfl, rfl, rfl, by decide +kernel, rfl, by decide +kernel, by decide +kernel⟩
theorem ok_letters (F : FnP K "_law_letters" sLetters f fd) (O__law_pull : Own P w K mg base 1 "_law_pull" ["_law_bag_here", "_law_many"] spPull) : FnOk P w K mg base CX0 2 f fd ["_law_bag_here"] spLetters := by
  have nd := scLetters.nd
  refine F.ok scLetters (fun vs H Q E h => ?_) (fun cdv A outer s H vs Q E hr h => ⟨_, PSs.nox (pss_one (ps_ret (pe_ix (r := rIxL K) ix_list (pe_lst (pa_cons pe_str (pa_cons pe_str (pa_cons pe_str (pa_cons pe_str (pa_cons pe_str (pa_cons pe_str (pa_cons pe_str (pa_cons pe_str pa_nil))))))))) (Hs.pe_own O__law_pull hr (by first | decide | omega) (by rfl) (pa_cons (pv 0) (pa_cons pe_int pa_nil))) (fun _ _ => rfl)))), ?_⟩)
  · obtain ⟨b, l, ns, n, rfl, _⟩ := h
    rfl
  · obtain ⟨b, l, ns, n, rfl, B, hn, k⟩ := h
    refine ⟨sz_of (by simp), fun p hp => ⟨_, rfl, b, l, ns, n, 8, rfl, B.ext (Ex.new hp) (Nat.le_refl _), by omega, by decide, by decide, fun v H1 v0 v1 B1 b1 => ?_⟩⟩
    obtain ⟨z, hz, hat⟩ := letters_at v0 v1
    exact ⟨p, siftsV, v, _, rfl, rfl, sq_of (b1 _ _ upd_same (bag_ne B hp)), hat, k z H1 hz B1 ((But.of (Ex.new hp)).trans b1)⟩
abbrev sTint : Stmt := top 114
theorem scTint : FnScope ["_law_bag_here", "_law_found", "_law_k", "_law_wide"] ["_law_bag_here"] (defScope sTint) := ⟨rfl, rfl, rfl, by decide +kernel, rfl, by decide +kernel, by decide +kernel⟩
theorem tint_at {wd v : Int} (hw : 0 ≤ wd ∧ wd ≤ 1000000) (h0 : 0 ≤ v) (h1 : v < 6) : ∃ z : Int, atI [V.int 0, .int 1, .int 255, .int (10 ^ 6), .int (wd.fmod 10), .int wd] v = some (.int z) ∧ 0 ≤ z ∧ z ≤ 1000000 := by
  have hm := modP (i := wd) (j := 10) (by decide)
  obtain rfl | rfl | rfl | rfl | rfl | rfl : v = 0 ∨ v = 1 ∨ v = 2 ∨ v = 3 ∨ v = 4 ∨ v = 5 := by omega
  · exact ⟨_, rfl, by decide, by decide⟩
  · exact ⟨_, rfl, by decide, by decide⟩
  · exact ⟨_, rfl, by decide, by decide⟩
  · exact ⟨_, rfl, by decide, by decide⟩
  · exact ⟨_, rfl, by omega, by omega⟩
  · exact ⟨_, rfl, hw.1, hw.2⟩
theorem ok_tint (F : FnP K "_law_tint" sTint f fd) (O__law_pull : Own P w K mg base 1 "_law_pull" ["_law_bag_here", "_law_many"] spPull) (g_range : mg "range" = none) (g_tuple : mg "tuple" = none) : FnOk P w K mg base CX0 2 f fd ["_law_bag_here"] spTint := by
  have nd := scTint.nd
  refine F.ok scTint (fun vs H Q E h => ?_) (fun cdv A outer s H vs Q E hr h => ⟨_, PSs.nox (pss_cons (ps_set (i := 1) nd rfl (.inl rfl) (pe_lst pa_nil))
  (pss_cons (ps_for PassesOwn.never rfl (pi_range1 (by rfl) g_range (pa_cons pe_int pa_nil)) (pg_name (i := 2) nd rfl (.inl rfl)) (pss_cons (ps_set (i := 3) nd rfl (.inl rfl) (Hs.pe_own O__law_pull hr (by first | decide | omega) (by rfl) (pa_cons (pv 0) (pa_cons (pe_op op_add (pe_op op_pow pe_int pe_int) pe_int) pa_nil))))
  (pss_one (ps_expr (pe_bm PySem.F.plainAttrs_list PySem.F.slot_list_append PySem.F.type_list_append mt_append (pv 1) (pa_cons (pe_ix (r := rIxL K) ix_list (pe_lst (pa_cons pe_int (pa_cons pe_int (pa_cons pe_int (pa_cons (pe_op op_pow pe_int pe_int) (pa_cons (pe_op op_modN (pv 3) pe_int) (pa_cons (pv 3) pa_nil))))))) (Hs.pe_own O__law_pull hr (by first | decide | omega) (by rfl) (pa_cons (pv 0) (pa_cons pe_int pa_nil))) (fun _ _ => rfl)) pa_nil))))))
  (pss_one (ps_ret (pe_callTy call_tuple_of (by rfl) g_tuple (by decide +kernel) (pa_cons (pv 1) pa_nil)))))), ?_⟩)
  · obtain ⟨b, l, ns, n, rfl, _⟩ := h
    rfl
  · obtain ⟨b, l, ns, n, rfl, B, hn, k⟩ := h
    refine ⟨sz_of (by simp), fun fl hfl => ?_⟩
    have nfb := bag_ne B hfl
    have nfl : fl ≠ l := Ne.symm (ne_of_none B.ls hfl)
    show tSeq _ _ _ [some (.ref b), some (.ref fl), none, none] _
    refine q_forR1 (n := 3) (ea_cons ev_c ea_nil) (by decide) (fun i σ' H' => ∃ (v2 v3 : Option V) (zs : List Int), σ' = [some (.ref b), some (.ref fl), v2, v3] ∧ BagAt H' b l ns (n + 2 * i) ∧ But H H' b ∧ H' fl = some (.lst (zs.map V.int)) ∧ zs.length = i ∧ ∀ z ∈ zs, 0 ≤ z ∧ z ≤ 1000000) ?_ ?_ ?_
    · intro H1 e1
      exact ⟨none, none, [], rfl, (B.ext (Ex.new hfl) (Nat.le_refl _)).ext e1 (by omega), But.of ((Ex.new hfl).trans e1), e1 _ _ upd_same, rfl, fun z hz => by cases hz⟩
    · rintro i σ' H1 hi ⟨v2, v3, zs, rfl, B1, b1, hf1, hz, hzs⟩
      refine ⟨_, rfl, _, _, rfl, rfl, ⟨by decide, by decide, by decide⟩, _, _, rfl, rfl, b, l, ns, n + 2 * i, _, rfl, B1, by omega, by decide, by decide, fun wd H2 w0 w1 B2 b2 => ?_⟩
      have hf2 := b2 _ _ hf1 nfb
      have wb : 0 ≤ wd ∧ wd ≤ 1000000 := ⟨w0, by
        have e : (10 : Int) ^ Int.toNat 6 = 1000000 := by decide
        omega⟩
      refine ⟨_, rfl, .inl ⟨rfl, _, sq_of hf2⟩, ?_⟩
      refine ⟨_, _, rfl, rfl, ⟨by decide, by decide, by decide⟩, _, rfl, _, _, rfl, rfl, (show (10 : Int) ≠ 0 by decide), _, rfl, sz_of (by simp), fun p hp => ?_⟩
      have e3 := Ex.new (o := .lst [V.int 0, .int 1, .int 255, .int (10 ^ 6), .int (wd.fmod 10), .int wd]) hp
      refine ⟨_, rfl, b, l, ns, n + 2 * i + 1, 6, rfl, B2.ext e3 (Nat.le_refl _), by omega, by decide, by decide, fun v H4 v0 v1 B4 b4 => ?_⟩
      obtain ⟨z, hat, z0, z1⟩ := tint_at wb v0 v1
      have hf4 := b4 _ _ (e3 _ _ hf2) nfb
      refine ⟨p, _, v, _, rfl, rfl, sq_of (b4 _ _ upd_same (bag_ne B2 hp)), hat, fl, _, _, rfl, rfl, hf4, sz_lt (by rw [List.length_map]; omega), ?_⟩
      refine ⟨_, _, zs ++ [z], rfl, bag_upd (B4.ext (Ex.refl _) (by omega)) (Ne.symm nfb) (Ne.symm nfl), fun a o ha hb => ?_, by rw [upd_same, List.map_append] <;> rfl, by rw [List.length_append, hz] <;> rfl, fun y hy => ?_⟩
      · rw [upd_ne (ne_of_none ha hfl)]
        exact b4 _ _ (e3 _ _ (b2 _ _ (b1 _ _ ha hb) hb)) hb
      · rcases List.mem_append.mp hy with q | q
        · exact hzs y q
        · rw [List.mem_singleton.mp q]
          exact ⟨z0, z1⟩
    · rintro σ' H1 ⟨v2, v3, zs, rfl, B1, b1, hf1, hz, hzs⟩
      obtain ⟨x, y, z, rfl⟩ : ∃ x y z, zs = [x, y, z] := match zs, hz with
        | [x, y, z], _ => ⟨x, y, z, rfl⟩
      refine ⟨_, rfl, fl, _, rfl, .inl ⟨sq_of hf1, fun p hp => ?_⟩⟩
      refine k p (x, y, z) _ ⟨hzs x (by simp), hzs y (by simp), hzs z (by simp)⟩ ?_ upd_same (B1.ext (Ex.new hp) (by show n + 2 * 3 ≤ n + 6; omega)) (b1.ex (Ex.new hp))
      cases hq : H p with
      | none => rfl
      | some o =>
        by_cases hpb : p = b
        · obtain ⟨i, y, s, c, h, _⟩ := B1.ex
          rw [hpb, h] at hp
          cases hp
        · rw [b1 _ _ hq hpb] at hp
          cases hp
def spOther : Sp := fun vs H Q _ => ∃ (b l g q : Addr) (ns : List Int) (n : Nat) (w x y : Int) (z : Pt), vs = [.ref b, .ref g, .ref q] ∧ BagAt H b l ns n ∧ n < 850000 ∧ H g = some (.tup [.int w, .int x, .int y]) ∧ Grid w x y ∧ H q = some (.tup (prV z)) ∧ Near z ∧
  ∀ (p : Addr) (z' : Pt) (H' : Hp), Near z' → z' ≠ z → H p = none → H' p = some (.tup (prV z')) → BagAt H' b l ns (n + 2) → But H H' b → Q (.ref p) H'
theorem ev_nePt {σ : L2.St} {H : Hp} {tx ty : TE} {p q : Addr} {x y : Pt} (hx : Ev tx σ H (.ref p)) (hy : Ev ty σ H (.ref q)) (px : SqT K H p (prV x)) (qy : SqT K H q (prV y)) : Ev (tOp (rNeD K) tx ty) σ H (.bl (!decide (x = y))) := fun H1 e Q k =>
  hx H1 e _ fun H2 e2 => hy H2 (e.trans e2) _ fun H3 e3 => ⟨_, _, dp_pt (ex_t ((e.trans e2).trans e3) px), dp_pt (ex_t ((e.trans e2).trans e3) qy), rfl, rfl, by rw [PySem.W.Datum.eqv]; exact k H3 (e2.trans e3)⟩
abbrev sOther : Stmt := top 113
theorem scOther : FnScope ["_law_bag_here", "_law_grid_here", "_law_spot_here", "_law_found"] ["_law_bag_here", "_law_grid_here", "_law_spot_here"] (defScope sOther) := ⟨rfl, rfl, rfl, by decide +kernel, rfl, by decide +kernel, by decide +kernel⟩
theorem ok_other (F : FnP K "_law_other_spot" sOther f fd) (O__law_spot : Own P w K mg base 2 "_law_spot" ["_law_bag_here", "_law_grid_here"] spSpot) : FnOk P w K mg base CX0 3 f fd ["_law_bag_here", "_law_grid_here", "_law_spot_here"] spOther := by
  have nd := scOther.nd
  refine F.ok scOther (fun vs H Q E h => ?_) (fun cdv A outer s H vs Q E hr h => ⟨_, PSs.nox (pss_cons (ps_set (i := 3) nd rfl (.inl rfl) (Hs.pe_own O__law_spot hr (by first | decide | omega) (by rfl) (pa_cons (pv 0) (pa_cons (pv 1) pa_nil))))
  (pss_cons (ps_if (pt_cmpR (op_neD hr.units) (pv 3) (pv 2) (nomark _)) (pss_one (ps_ret (pv 3))) pss_nil)
  (pss_one (ps_ret (pe_tup (pa_cons (pe_op op_add (pe_ix (r := rIxT K) ix_tup (pv 2) pe_int (fun _ _ => rfl)) (pe_ifExp (pt_cmpR op_lt (pe_ix (r := rIxT K) ix_tup (pv 2) pe_int (fun _ _ => rfl)) (pe_op op_pow pe_int pe_int) (nomark _)) pe_int (pe_op op_sub pe_int pe_int))) (pa_cons (pe_ix (r := rIxT K) ix_tup (pv 2) pe_int (fun _ _ => rfl)) pa_nil))))))), ?_⟩)
  · obtain ⟨b, l, g, q, ns, n, w, x, y, z, rfl, _⟩ := h
    rfl
  · obtain ⟨b, l, g, q, ns, n, w, x, y, z, rfl, B, hn, hg, G, hq, cz, k⟩ := h
    refine ⟨_, rfl, _, rfl, b, l, g, ns, n, w, x, y, rfl, B, by omega, hg, G, fun p u H1 cu np hp B1 b1 => ?_⟩
    have hq1 := st_of (K := K) (b1.tup B hq)
    dsimp only [gName, List.set]
    refine q_when (et_test (ev_nePt (ev_var rfl) (ev_var rfl) (st_of hp) hq1)) (fun ht H2 e2 => ?_) (fun ht H2 e2 => ?_)
    · exact s_ret (ev_var rfl) fun H3 e3 => k p u H3 cu (by intro z; rw [z] at ht; simp at ht) np ((e2.trans e3) _ _ hp) (B1.ext (e2.trans e3) (Nat.le_refl _)) (b1.ex (e2.trans e3))
    · have hq2 := ex_t e2 hq1
      have t6 : (10 : Int) ^ Int.toNat 6 = 1000000 := by decide
      obtain ⟨c1, c2⟩ := cz
      refine s_retU (xs := prV (z.1 + (if z.1 < 1000000 then 1 else -1), z.2)) (eu_tup (ea_cons (ev_op (ev_ixt rfl hq2 rfl) (ev_if (et_test (ev_op (ev_ixt rfl hq2 rfl) (ev_op ev_c ev_c (rv_I ⟨by decide, by decide, by decide⟩)) rv_I0)) (fun hb => ?_) (fun hb => ?_)) rv_I0) (ea_cons (ev_ixt rfl hq2 rfl) ea_nil)) (by show 2 ≤ 100000; decide)) fun r H3 nr e3 hr3 => k r (z.1 + (if z.1 < 1000000 then 1 else -1), z.2) H3 ⟨?_, c2⟩ ?_ (b1.fresh B1 (fresh_back e2 nr)) hr3 (B1.ext (e2.trans e3) (Nat.le_refl _)) (b1.ex (e2.trans e3))
      · rw [t6] at hb
        rw [if_pos (of_decide_eq_true hb)]
        exact ev_c
      · rw [t6] at hb
        rw [if_neg (of_decide_eq_false hb)]
        exact ev_op ev_c ev_c rv_I0
      · show (z.1 + (if z.1 < 1000000 then 1 else -1)).natAbs ≤ 1000000
        split <;> omega
      · intro e
        have e1 : z.1 + (if z.1 < 1000000 then 1 else -1) = z.1 := congrArg Prod.fst e
        split at e1 <;> omega
end
end Hs
namespace Hs
open PySem PySem.Spec PyProof.Rows L2 Evl
/-! ### what will not be changed any more, locked at any turn -/
def tFrzA (t : TE) : TE := fun σ H Q => t σ H fun v H1 => ∃ d u, H1 d = some u ∧ Mut (some u) ∧ ∀ od, Q v (upd H1 d (.frz od u))
theorem pe_frzA {X : Cx} {e : Expr} {t : TE} (h : PE X e t) : PE X e (tFrzA t) := ⟨fun pins s σ H Q I q => thn (h.run pins s σ H _ I q) fun _ s1 ⟨x, H1, I1, r, d, u, hd, mu, k⟩ => by
  obtain ⟨od, I2⟩ := I1.lock hd mu
  exact ⟨x, _, I2, r, k od⟩⟩
/-! ### the law's own model: five tables by their words -/
def mW : List Str := ["lamp", "post", "pane", "look", "came"]
def rowM (D : Str → Addr) : List (Key × V) := mW.map fun w => (.inr w, .ref (D w))
abbrev Tabs5 := Str → List (Key × V)
def RawM (H : Hp) (m : Addr) (T : Tabs5) : Prop := ∃ D : Str → Addr, Fz H m (rowM D) ∧ ∀ w ∈ mW, Fz H (D w) (T w)
theorem RawM.ext {H H' : Hp} {m : Addr} {T : Tabs5} (h : RawM H m T) (e : Ex H H') : RawM H' m T := let ⟨D, h1, h2⟩ := h; ⟨D, h1.ext e, fun w hw => (h2 w hw).ext e⟩
theorem Kp.raw {H H' : Hp} {m : Addr} {T : Tabs5} (e : Kp H H') (h : RawM H m T) : RawM H' m T := let ⟨D, h1, h2⟩ := h; ⟨D, e.fz h1, fun w hw => e.fz (h2 w hw)⟩
theorem valV_row {D : Str → Addr} {w : Str} (h : w ∈ mW) : valV (rowM D) (.inr w) = some (.ref (D w)) := by
  simp only [mW, List.mem_cons, List.not_mem_nil, or_false] at h
  rcases h with rfl | rfl | rfl | rfl | rfl <;> rfl
theorem RawM.tab {H : Hp} {m : Addr} {T : Tabs5} (h : RawM H m T) {w : Str} (hw : w ∈ mW) : ∃ d, DGet H m (.str w) (some (.ref d)) ∧ Fz H d (T w) := by
  obtain ⟨D, h1, h2⟩ := h
  refine ⟨D w, ?_, h2 w hw⟩
  have z := h1.get (k := .inr w)
  rw [valV_row hw] at z
  exact z
/-- a copy, not yet locked -/
structure CopyM (H : Hp) (a : Addr) (D : Str → Addr) (T : Tabs5) : Prop where
  row : H a = some (.dK (rowM D))
  tab : ∀ w ∈ mW, H (D w) = some (.dK (T w))
  na : ∀ w ∈ mW, D w ≠ a
  ne : ∀ w ∈ mW, ∀ u ∈ mW, w ≠ u → D w ≠ D u
def spNewM : Sp := fun vs H Q _ => vs = [] ∧ ∀ (T : Tabs5) m H', H m = none → Ex H H' → (∀ w : Str, w ≠ "came" → T w = []) → T "came" = comingV → RawM H' m T → Q (.ref m) H'
def spCopyM : Sp := fun vs H Q _ => ∃ m T, vs = [.ref m] ∧ RawM H m T ∧ (∀ w ∈ mW, (T w).length ≤ 1000) ∧ ∀ a D H', H a = none → (∀ w ∈ mW, H (D w) = none) → Ex H H' → CopyM H' a D T → Q (.ref a) H'
def putM (T : Tabs5) (w : Str) (n : Int) (v : V) : Tabs5 := fun u => if u = "came" then putK (T "came") (.inr w) (.int (n + 1)) else if u = w then putK (T w) (.inl n) v else T u
def spPutM : Sp := fun vs H Q _ => ∃ (m : Addr) (T : Tabs5) (w : Str) (n : Int) (v : V), vs = [.ref m, .str w, v] ∧ RawM H m T ∧ (∀ w ∈ mW, (T w).length ≤ 1000) ∧ w ∈ mW ∧ w ≠ "came" ∧ valV (T "came") (.inr w) = some (.int n) ∧ ∀ a H', H a = none → Ex H H' → RawM H' a (putM T w n v) → Q (.ref a) H'
section
variable {P : Program} {w : World} {K : PySem.W.Frag} {mg : Str → Option Value} {base : Heap} {f : Addr} {fd : FuncData}
abbrev sNewM : Stmt := top 119
theorem scNewM : FnScope ["_law_came"] [] (defScope sNewM) := ⟨rfl, rfl, rfl, by decide +kernel, rfl, by decide +kernel, by decide +kernel⟩
theorem frz_new {H : Hp} {p : Addr} {o : HO} {od : Obj} (h : H p = none) : Ex H (upd (upd H p o) p (.frz od o)) := Ex.mut (Ex.new h) h
theorem frz_new2 {H : Hp} {p : Addr} {o o2 : HO} {od : Obj} (h : H p = none) : Ex H (upd (upd (upd H p o) p o2) p (.frz od o2)) := Ex.mut (Ex.mut (Ex.new h) h) h
theorem ok_newM (F : FnP K "_law_new" sNewM f fd) : FnOk P w K mg base CX0 1 f fd [] spNewM := by
  have nd := scNewM.nd
  refine F.ok scNewM (fun vs H Q E h => ?_) (fun cdv A outer s H vs Q E hr h => ⟨_, PSs.nox (pss_cons (ps_set (i := 0) nd rfl (.inl rfl) (Hs.pe_frz (pe_disp (pps_cons pe_str pe_int (pps_cons pe_str pe_int (pps_cons pe_str pe_int (pps_cons pe_str pe_int pps_nil)))) (by rfl) (by rfl) (by simp) (by decide))))
  (pss_one (ps_ret (Hs.pe_frz (pe_disp (pps_cons pe_str (Hs.pe_frz pe_dnewK) (pps_cons pe_str (Hs.pe_frz pe_dnewK) (pps_cons pe_str (Hs.pe_frz pe_dnewK) (pps_cons pe_str (Hs.pe_frz pe_dnewK) (pps_cons pe_str (pv 0) pps_nil))))) (by rfl) (by rfl) (by simp) (by decide)))))), ?_⟩)
  · rw [h.1] <;> rfl
  · obtain ⟨rfl, k⟩ := h
    refine fun cm hcm => ⟨upd_same, comingV, rfl, by decide, cm, _, rfl, upd_same, True.intro, fun od0 => ?_⟩
    have em : mergeK [] comingV = comingV := by rfl
    rw [em]
    have x0 : Ex H (upd (upd (upd H cm (.dK [])) cm (.dK comingV)) cm (.frz od0 (.dK comingV))) := frz_new2 hcm
    have f0 : Fz (upd (upd (upd H cm (.dK [])) cm (.dK comingV)) cm (.frz od0 (.dK comingV))) cm comingV := ⟨od0, upd_same⟩
    generalize upd (upd (upd H cm (.dK [])) cm (.dK comingV)) cm (.frz od0 (.dK comingV)) = H0 at x0 f0 ⊢
    dsimp only [gName, List.set]
    refine fun m hm => ?_
    have xm := Ex.new (o := .dK []) hm
    have hm0 : upd H0 m (.dK []) m = some (.dK []) := upd_same
    generalize upd H0 m (.dK []) = Hm at xm hm0 ⊢
    refine fun d1 h1 => ⟨d1, _, rfl, upd_same, True.intro, fun o1 => ?_⟩
    have x1 : Ex Hm (upd (upd Hm d1 (.dK [])) d1 (.frz o1 (.dK []))) := frz_new h1
    have f1 : Fz (upd (upd Hm d1 (.dK [])) d1 (.frz o1 (.dK []))) d1 [] := ⟨o1, upd_same⟩
    generalize upd (upd Hm d1 (.dK [])) d1 (.frz o1 (.dK [])) = H1 at x1 f1 ⊢
    refine fun d2 h2 => ⟨d2, _, rfl, upd_same, True.intro, fun o2 => ?_⟩
    have x2 : Ex H1 (upd (upd H1 d2 (.dK [])) d2 (.frz o2 (.dK []))) := frz_new h2
    have f2 : Fz (upd (upd H1 d2 (.dK [])) d2 (.frz o2 (.dK []))) d2 [] := ⟨o2, upd_same⟩
    generalize upd (upd H1 d2 (.dK [])) d2 (.frz o2 (.dK [])) = H2 at x2 f2 ⊢
    refine fun d3 h3 => ⟨d3, _, rfl, upd_same, True.intro, fun o3 => ?_⟩
    have x3 : Ex H2 (upd (upd H2 d3 (.dK [])) d3 (.frz o3 (.dK []))) := frz_new h3
    have f3 : Fz (upd (upd H2 d3 (.dK [])) d3 (.frz o3 (.dK []))) d3 [] := ⟨o3, upd_same⟩
    generalize upd (upd H2 d3 (.dK [])) d3 (.frz o3 (.dK [])) = H3 at x3 f3 ⊢
    refine fun d4 h4 => ⟨d4, _, rfl, upd_same, True.intro, fun o4 => ?_⟩
    have x4 : Ex H3 (upd (upd H3 d4 (.dK [])) d4 (.frz o4 (.dK []))) := frz_new h4
    have f4 : Fz (upd (upd H3 d4 (.dK [])) d4 (.frz o4 (.dK []))) d4 [] := ⟨o4, upd_same⟩
    generalize upd (upd H3 d4 (.dK [])) d4 (.frz o4 (.dK [])) = H4 at x4 f4 ⊢
    have e14 := (x2.trans x3).trans x4
    have em4 := x1.trans e14
    have hm4 := em4 _ _ hm0
    let D : Str → Addr := fun w => if w = "lamp" then d1 else if w = "post" then d2 else if w = "pane" then d3 else if w = "look" then d4 else cm
    refine ⟨_, rfl, hm4, rowM D, rfl, (show 5 ≤ 15 by decide), m, _, rfl, upd_same, True.intro, fun om => ?_⟩
    have em2 : mergeK [] (rowM D) = rowM D := by rfl
    rw [em2]
    have hmn : H0 m = none := hm
    have e04 := xm.trans em4
    have eE : Ex H0 (upd (upd H4 m (.dK (rowM D))) m (.frz om (.dK (rowM D)))) := Ex.mut (Ex.mut e04 hmn) hmn
    have nm : ∀ {d : Addr} {kvs : List (Key × V)}, Fz H4 d kvs → Fz (upd (upd H4 m (.dK (rowM D))) m (.frz om (.dK (rowM D)))) d kvs := fun {d kvs} ⟨od, h⟩ => ⟨od, by
      have n := ne_of h hm4 (by intro z; cases z)
      rw [upd_ne n, upd_ne n]
      exact h⟩
    refine k (fun w => if w = "came" then comingV else []) m _ (fresh_back x0 hm) (x0.trans eE) (fun w hw => if_neg hw) (if_pos rfl) ⟨D, ⟨om, upd_same⟩, fun w hw => ?_⟩
    simp only [mW, List.mem_cons, List.not_mem_nil, or_false] at hw
    rcases hw with rfl | rfl | rfl | rfl | rfl
    · exact nm (f1.ext e14)
    · exact nm (f2.ext (x3.trans x4))
    · exact nm (f3.ext x4)
    · exact nm f4
    · exact nm (f0.ext e04)
abbrev sCopyM : Stmt := top 120
theorem scCopyM : FnScope ["_law_m", "_law_found", "_law_word"] ["_law_m"] (defScope sCopyM) := ⟨rfl, rfl, rfl, by decide +kernel, rfl, by decide +kernel, by decide +kernel⟩
theorem mW_new {i : Nat} {w : Str} (h : mW[i]? = some w) : w ∉ mW.take i := by
  match i, h with
  | 0, h => cases h; decide +kernel
  | 1, h => cases h; decide +kernel
  | 2, h => cases h; decide +kernel
  | 3, h => cases h; decide +kernel
  | 4, h => cases h; decide +kernel
  | i + 5, h => cases h
theorem ok_copyM (F : FnP K "_law_copy" sCopyM f fd) (g_dict : mg "dict" = none) : FnOk P w K mg base CX0 1 f fd ["_law_m"] spCopyM := by
  have nd := scCopyM.nd
  refine F.ok scCopyM (fun vs H Q E h => ?_) (fun cdv A outer s H vs Q E hr h => ⟨_, PSs.nox (pss_cons (ps_set (i := 1) nd rfl (.inl rfl) pe_dnewK)
  (pss_cons (ps_for PassesOwn.never rfl (pi_keys (pv 0)) (pg_name (i := 2) nd rfl (.inl rfl)) (pss_one (ps_dput (Hs.un1 hr) (pv 1) (pv 2) (pe_callTy call_dictD (by rfl) g_dict (by decide +kernel) (pa_cons (pe_dget (Hs.un1 hr) (pv 0) (pv 2) (fun _ _ => rfl)) pa_nil)) (by rfl))))
  (pss_one (ps_ret (pv 1))))), ?_⟩)
  · obtain ⟨m, T, rfl, _⟩ := h
    rfl
  · obtain ⟨m, T, rfl, hM, hz, k⟩ := h
    obtain ⟨Dm, ⟨odm, hm⟩, hT⟩ := hM
    refine fun a ha => ?_
    dsimp only [gName, List.set]
    have xa := Ex.new (o := .dK []) ha
    refine ⟨_, rfl, m, odm, rfl, .inl ⟨_, xa _ _ hm, ?_⟩⟩
    refine for_it walk_keys (fun i σ' H' => (∃ v2 : Option V, σ' = [some (.ref m), some (.ref a), v2]) ∧ Ex H H' ∧ ∃ D : Str → Addr, H' a = some (.dK ((mW.take i).map fun w => (.inr w, .ref (D w)))) ∧ (∀ w ∈ mW.take i, H' (D w) = some (.dK (T w)) ∧ H (D w) = none ∧ D w ≠ a) ∧ ∀ w ∈ mW.take i, ∀ u ∈ mW.take i, w ≠ u → D w ≠ D u) ⟨⟨none, rfl⟩, xa, Dm, upd_same, (fun w hw => by cases hw), fun w hw => by cases hw⟩ (fun i σ' H' _ q => q.2.1 _ _ hm) (fun i x σ' H' H'' hi q y => ?_) (fun σ' H' q => ?_)
    · obtain ⟨⟨v2, rfl⟩, e, D, h1, h2, h3⟩ := q
      obtain ⟨rfl, key, v, hkv, rfl⟩ := y
      unfold rowM at hkv
      rw [List.getElem?_map] at hkv
      obtain ⟨w, hw, ez⟩ := Option.map_eq_some_iff.mp hkv
      cases ez
      have hwm : w ∈ mW := List.mem_of_getElem? hw
      have hnew := mW_new hw
      have hg : DGet H'' m (kV (.inr w)) (some (.ref (Dm w))) := by
        have z := Fz.get (⟨odm, e _ _ hm⟩ : Fz H'' m (rowM Dm)) (k := .inr w)
        rw [valV_row hwm] at z
        exact z
      refine ⟨_, rfl, _, rfl, m, _, rfl, hg, Dm w, T w, rfl, ((hT w hwm).ext e).rd, fun d hd => ?_⟩
      have xd := Ex.new (o := .dK (T w)) hd
      have h1d := xd _ _ h1
      have hlen : ((mW.take i).map fun w => ((.inr w : Key), V.ref (D w))).length ≤ 5 := by
        rw [List.length_map, List.length_take]
        exact Nat.min_le_right _ _
      refine ⟨_, rfl, _, rfl, a, _, rfl, DPut.k (k := .inr w) h1d (sz_lt (by omega)), ?_⟩
      have hk : ∀ p ∈ ((mW.take i).map fun w => ((.inr w : Key), V.ref (D w))), p.1 ≠ .inr w := fun p hp ep => by
        obtain ⟨u, hu, rfl⟩ := List.mem_map.mp hp
        exact hnew (by rw [← Sum.inr.inj ep]; exact hu)
      rw [putK_new hk]
      have nda : d ≠ a := fun z => by
        rw [z, h1] at hd
        cases hd
      have ndD : ∀ u ∈ mW.take i, D u ≠ d := fun u hu z => by
        have q := (h2 u hu).1
        rw [z, hd] at q
        cases q
      have hWi : mW.take (i + 1) = mW.take i ++ [w] := by rw [List.take_add_one, hw] <;> rfl
      have eD : ∀ u ∈ mW.take i, (if u = w then d else D u) = D u := fun u hu => if_neg fun z => hnew (by rw [← z]; exact hu)
      refine ⟨⟨_, rfl⟩, Ex.mut (e.trans xd) ha, fun u => if u = w then d else D u, ?_, fun u hu => ?_, fun u hu z hz2 nz => ?_⟩
      · rw [upd_same, hWi, List.map_append, List.map_singleton]
        dsimp only
        rw [if_pos rfl]
        congr 3
        exact List.map_congr_left fun u hu => by rw [eD u hu]
      · rw [hWi] at hu
        rcases List.mem_append.mp hu with hu | hu
        · obtain ⟨g1, g2, g3⟩ := h2 u hu
          dsimp only
          rw [eD u hu]
          exact ⟨by rw [upd_ne g3]; exact xd _ _ g1, g2, g3⟩
        · have eu := List.mem_singleton.mp hu
          subst eu
          dsimp only
          rw [if_pos rfl]
          exact ⟨by rw [upd_ne nda, upd_same], fresh_back e hd, nda⟩
      · rw [hWi] at hu hz2
        rcases List.mem_append.mp hu with hu1 | hu1 <;> rcases List.mem_append.mp hz2 with hz3 | hz3
        · show (if u = w then d else D u) ≠ (if z = w then d else D z)
          rw [eD u hu1, eD z hz3]
          exact h3 u hu1 z hz3 nz
        · show (if u = w then d else D u) ≠ (if z = w then d else D z)
          rw [eD u hu1, if_pos (List.mem_singleton.mp hz3)]
          exact ndD u hu1
        · show (if u = w then d else D u) ≠ (if z = w then d else D z)
          rw [eD z hz3, if_pos (List.mem_singleton.mp hu1)]
          exact Ne.symm (ndD z hz3)
        · exact absurd ((List.mem_singleton.mp hu1).trans (List.mem_singleton.mp hz3).symm) nz
    · obtain ⟨⟨v2, rfl⟩, e, D, h1, h2, h3⟩ := q
      have e5 : mW.take (rowM Dm).length = mW := rfl
      rw [e5] at h1 h2 h3
      exact ⟨_, rfl, k a D H' ha (fun w hw => (h2 w hw).2.1) e ⟨h1, fun w hw => (h2 w hw).1, fun w hw => (h2 w hw).2.2, h3⟩⟩
abbrev sPutM : Stmt := top 127
theorem scPutM : FnScope ["_law_m", "_law_word", "_law_thing", "_law_late", "_law_number"] ["_law_m", "_law_word", "_law_thing"] (defScope sPutM) := ⟨rfl, rfl, rfl, by decide +kernel, rfl, by decide +kernel, by decide +kernel⟩
theorem CopyM.get {H : Hp} {a : Addr} {D : Str → Addr} {T : Tabs5} (h : CopyM H a D T) {w : Str} (hw : w ∈ mW) : DGet H a (.str w) (some (.ref (D w))) := by
  have z := DGet.k (k := .inr w) h.row
  rw [valV_row hw] at z
  exact z
theorem CopyM.set {H : Hp} {a : Addr} {D : Str → Addr} {T : Tabs5} (h : CopyM H a D T) {w : Str} (hw : w ∈ mW) {kvs : List (Key × V)} : CopyM (upd H (D w) (.dK kvs)) a D (fun u => if u = w then kvs else T u) := by
  refine ⟨by rw [upd_ne (Ne.symm (h.na w hw))]; exact h.row, fun u hu => ?_, h.na, h.ne⟩
  by_cases e : u = w
  · subst e
    rw [upd_same, if_pos rfl]
  · rw [upd_ne (h.ne u hu w hw e), if_neg e]
    exact h.tab u hu
theorem lock5 {H H0 : Hp} {a : Addr} {D : Str → Addr} {T : Tabs5} {Q : VK} (h : CopyM H a D T) (e : Ex H0 H) (na : H0 a = none) (nD : ∀ w ∈ mW, H0 (D w) = none) (k : ∀ H', Ex H0 H' → (∀ b xs, H b = some (.tup xs) → H' b = some (.tup xs)) → RawM H' a T → Q (.ref a) H') {σ : L2.St} {t : TE} (ht : ∀ Q' : VK, Q' (.ref a) H → t σ H Q') :
    tFrzA (tFrzA (tFrzA (tFrzA (tFrzA (tFrzA t))))) σ H Q := by
  have m1 : ("lamp" : Str) ∈ mW := by decide +kernel
  have m2 : ("post" : Str) ∈ mW := by decide +kernel
  have m3 : ("pane" : Str) ∈ mW := by decide +kernel
  have m4 : ("look" : Str) ∈ mW := by decide +kernel
  have m5 : ("came" : Str) ∈ mW := by decide +kernel
  have n12 := h.ne _ m1 _ m2 (by decide +kernel)
  have n13 := h.ne _ m1 _ m3 (by decide +kernel)
  have n14 := h.ne _ m1 _ m4 (by decide +kernel)
  have n15 := h.ne _ m1 _ m5 (by decide +kernel)
  have n23 := h.ne _ m2 _ m3 (by decide +kernel)
  have n24 := h.ne _ m2 _ m4 (by decide +kernel)
  have n25 := h.ne _ m2 _ m5 (by decide +kernel)
  have n34 := h.ne _ m3 _ m4 (by decide +kernel)
  have n35 := h.ne _ m3 _ m5 (by decide +kernel)
  have n45 := h.ne _ m4 _ m5 (by decide +kernel)
  have a1 := h.na _ m1
  have a2 := h.na _ m2
  have a3 := h.na _ m3
  have a4 := h.na _ m4
  have a5 := h.na _ m5
  refine ht _ ⟨a, .dK (rowM D), h.row, True.intro, fun o0 => ⟨D "lamp", .dK (T "lamp"), (by rw [upd_ne a1]; exact h.tab _ m1), True.intro, fun o1 => ⟨D "post", .dK (T "post"), (by rw [upd_ne (Ne.symm n12), upd_ne a2]; exact h.tab _ m2), True.intro, fun o2 => ⟨D "pane", .dK (T "pane"), (by rw [upd_ne (Ne.symm n23), upd_ne (Ne.symm n13), upd_ne a3]; exact h.tab _ m3), True.intro, fun o3 => ⟨D "look", .dK (T "look"), (by rw [upd_ne (Ne.symm n34), upd_ne (Ne.symm n24), upd_ne (Ne.symm n14), upd_ne a4]; exact h.tab _ m4), True.intro, fun o4 => ⟨D "came", .dK (T "came"), (by rw [upd_ne (Ne.symm n45), upd_ne (Ne.symm n35), upd_ne (Ne.symm n25), upd_ne (Ne.symm n15), upd_ne a5]; exact h.tab _ m5), True.intro, fun o5 => ?_⟩⟩⟩⟩⟩⟩
  refine k _ (Ex.mut (Ex.mut (Ex.mut (Ex.mut (Ex.mut (Ex.mut e na) (nD _ m1)) (nD _ m2)) (nD _ m3)) (nD _ m4)) (nD _ m5)) (fun b xs hb => ?_) ⟨D, ⟨o0, ?_⟩, fun w hw => ?_⟩
  · have nb : b ≠ a := ne_of hb h.row (by intro z; cases z)
    have nt : ∀ w ∈ mW, b ≠ D w := fun w hw => ne_of hb (h.tab w hw) (by intro z; cases z)
    rw [upd_ne (nt _ m5), upd_ne (nt _ m4), upd_ne (nt _ m3), upd_ne (nt _ m2), upd_ne (nt _ m1), upd_ne nb]
    exact hb
  · rw [upd_ne (Ne.symm a5), upd_ne (Ne.symm a4), upd_ne (Ne.symm a3), upd_ne (Ne.symm a2), upd_ne (Ne.symm a1), upd_same]
  · simp only [mW, List.mem_cons, List.not_mem_nil, or_false] at hw
    rcases hw with rfl | rfl | rfl | rfl | rfl
    · exact ⟨o1, by rw [upd_ne n15, upd_ne n14, upd_ne n13, upd_ne n12, upd_same]⟩
    · exact ⟨o2, by rw [upd_ne n25, upd_ne n24, upd_ne n23, upd_same]⟩
    · exact ⟨o3, by rw [upd_ne n35, upd_ne n34, upd_same]⟩
    · exact ⟨o4, by rw [upd_ne n45, upd_same]⟩
    · exact ⟨o5, upd_same⟩
theorem ok_putM (F : FnP K "_law_put" sPutM f fd) (O__law_copy : Own P w K mg base 1 "_law_copy" ["_law_m"] spCopyM) : FnOk P w K mg base CX0 2 f fd ["_law_m", "_law_word", "_law_thing"] spPutM := by
  have nd := scPutM.nd
  refine F.ok scPutM (fun vs H Q E h => ?_) (fun cdv A outer s H vs Q E hr h => ⟨_, PSs.nox (pss_cons (ps_set (i := 3) nd rfl (.inl rfl) (Hs.pe_own O__law_copy hr (by first | decide | omega) (by rfl) (pa_cons (pv 0) pa_nil)))
  (pss_cons (ps_set (i := 4) nd rfl (.inl rfl) (pe_dget (Hs.un1 hr) (pe_dget (Hs.un1 hr) (pv 3) pe_str (fun _ _ => rfl)) (pv 1) (fun _ _ => rfl)))
  (pss_cons (ps_dput (Hs.un1 hr) (pe_dget (Hs.un1 hr) (pv 3) (pv 1) (fun _ _ => rfl)) (pv 4) (pv 2) (by rfl))
  (pss_cons (ps_dput (Hs.un1 hr) (pe_dget (Hs.un1 hr) (pv 3) pe_str (fun _ _ => rfl)) (pv 1) (pe_op op_add (pv 4) pe_int) (by rfl))
  (pss_one (ps_ret (Hs.pe_frzA (Hs.pe_frzA (Hs.pe_frzA (Hs.pe_frzA (Hs.pe_frzA (Hs.pe_frzA (pv 3))))))))))))), ?_⟩)
  · obtain ⟨m, T, w, n, v, rfl, _⟩ := h
    rfl
  · obtain ⟨m, T, wd, n, v, rfl, hM, hz, hw, hc, hn, k⟩ := h
    have m5 : ("came" : Str) ∈ mW := by decide +kernel
    refine ⟨_, rfl, m, T, rfl, hM, hz, fun a D H1 na nD e1 C1 => ?_⟩
    dsimp only [gName, List.set]
    refine ⟨_, rfl, a, _, rfl, C1.get m5, _, rfl, D "came", _, rfl, by have z := DGet.k (k := .inr wd) (C1.tab _ m5); rw [hn] at z; exact z, ?_⟩
    dsimp only [gName, List.set]
    refine ⟨_, rfl, _, rfl, _, rfl, a, _, rfl, C1.get hw, _, rfl, D wd, _, rfl, DPut.k (k := .inl n) (C1.tab _ hw) (sz_lt (by have := hz wd hw; omega)), ?_⟩
    have C2 := C1.set hw (kvs := putK (T wd) (.inl n) v)
    have e2 := Ex.mut (o := .dK (putK (T wd) (.inl n) v)) e1 (nD wd hw)
    generalize upd H1 (D wd) (.dK (putK (T wd) (.inl n) v)) = H2 at C2 e2 ⊢
    have tc := C2.tab _ m5
    have ec : (if ("came" : Str) = wd then putK (T wd) (.inl n) v else T "came") = T "came" := if_neg (Ne.symm hc)
    rw [ec] at tc
    refine ⟨_, rfl, _, _, rfl, rfl, _, rfl, a, _, rfl, C2.get m5, _, rfl, D "came", _, rfl, DPut.k (k := .inr wd) tc (sz_lt (by have := hz _ m5; omega)), ?_⟩
    have C3 := C2.set m5 (kvs := putK (T "came") (.inr wd) (.int (n + 1)))
    have e3 := Ex.mut (o := .dK (putK (T "came") (.inr wd) (.int (n + 1)))) e2 (nD _ m5)
    dsimp only [gName, List.set]
    show tFrzA (tFrzA (tFrzA (tFrzA (tFrzA (tFrzA (tVar 3)))))) _ _ Q
    exact lock5 C3 e3 na nD (fun H' e' _ r => k a H' na e' r) (fun Q' q => ⟨_, rfl, q⟩)
end
end Hs
namespace Hs
open PySem PySem.Spec PyProof.Rows L2 Evl
/-! ### a thing that is drawn, things mixed -/
def Deed.wd : Deed → Str
  | .lamp _ => "lamp"
  | .post _ => "post"
  | .pane _ _ _ => "pane"
def Deed.near : Deed → Prop
  | .lamp c => Near (c.1, c.2.1) ∧ triB c.2.2
  | .post B => Vb B ∧ NearB B
  | .pane a b z => (Near a ∧ Near b) ∧ b ≠ a ∧ z ∈ S8
theorem InFar.near {x y : Int} (hx : x.natAbs ≤ 1000000) (hy : y.natAbs ≤ 1000000) : InFar [x, y] := fun n hn => by
  simp only [List.mem_cons, List.not_mem_nil, or_false] at hn
  unfold absI
  rcases hn with rfl | rfl <;> split <;> omega
theorem far4 {a b c d : Int} (h1 : InFar [a, b]) (h2 : InFar [c, d]) : InFar [a, b, c, d] := fun n hn => by
  simp only [List.mem_cons, List.not_mem_nil, or_false] at hn
  rcases hn with rfl | rfl | rfl | rfl
  · exact h1 _ (by simp)
  · exact h1 _ (by simp)
  · exact h2 _ (by simp)
  · exact h2 _ (by simp)
theorem bd20 {x : Int} (h : x.natAbs ≤ 1000000) : Bd 20 x := Nat.lt_of_le_of_lt h (by decide)
theorem lit3 {r g u : Int} (h : triB (r, g, u)) : InLit 1000000 [r, g, u] := fun n hn => by
  simp only [List.mem_cons, List.not_mem_nil, or_false] at hn
  rcases hn with rfl | rfl | rfl
  · exact h.1
  · exact h.2.1
  · exact h.2.2
theorem Deed.near.good {D : Deed} (h : D.near) : D.good 20 := by
  cases D with
  | lamp c => exact ⟨InFar.near h.1.1 h.1.2, lit3 h.2⟩
  | post B => exact ⟨far4 (InFar.near h.2.1.1 h.2.1.2) (InFar.near h.2.2.1 h.2.2.2), h.1, ⟨bd20 h.2.1.1, bd20 h.2.1.2, bd20 h.2.2.1, bd20 h.2.2.2⟩⟩
  | pane a b z => exact ⟨⟨InFar.near h.1.1.1 h.1.1.2, InFar.near h.1.2.1 h.1.2.2⟩, (fun e => h.2.1 (Prod.ext e.1.symm e.2.symm)), good_of h.2.2, ⟨bd20 h.1.1.1, bd20 h.1.1.2⟩, bd20 h.1.2.1, bd20 h.1.2.2⟩
def spThingD : Sp := fun vs H Q _ => ∃ (b l g : Addr) (ns : List Int) (n : Nat) (w x y : Int) (wd : Str), vs = [.ref b, .ref g, .str wd] ∧ BagAt H b l ns n ∧ n < 700000 ∧ H g = some (.tup [.int w, .int x, .int y]) ∧ Grid w x y ∧ (wd = "lamp" ∨ wd = "post" ∨ wd = "pane") ∧
  ∀ (p : Addr) (D : Deed) (H' : Hp), D.near → D.wd = wd → H p = none → H' p = some (.tup D.vals) → BagAt H' b l ns (n + 10) → But H H' b → Q (.ref p) H'
theorem But.upd2 {H H1 : Hp} {b a : Addr} {u : HO} (x : But H H1 b) (h : H a = none) : But H (L2.upd H1 a u) b := fun c o hc nb => by
  rw [upd_ne (ne_of_none hc h)]
  exact x c o hc nb
section
variable {P : Program} {w : World} {K : PySem.W.Frag} {mg : Str → Option Value} {base : Heap} {f : Addr} {fd : FuncData}
abbrev sThingD : Stmt := top 117
theorem scThingD : FnScope ["_law_bag_here", "_law_grid_here", "_law_word", "_law_a"] ["_law_bag_here", "_law_grid_here", "_law_word"] (defScope sThingD) := ⟨rfl, rfl, rfl, by decide +kernel, rfl, by decide +kernel, by decide +kernel⟩
theorem ok_thingD (F : FnP K "_law_thing_deed" sThingD f fd) (O__law_spot : Own P w K mg base 2 "_law_spot" ["_law_bag_here", "_law_grid_here"] spSpot) (O__law_tint : Own P w K mg base 2 "_law_tint" ["_law_bag_here"] spTint) (O__law_block : Own P w K mg base 3 "_law_block" ["_law_bag_here", "_law_grid_here"] spBlock) (O__law_other_spot : Own P w K mg base 3 "_law_other_spot" ["_law_bag_here", "_law_grid_here", "_law_spot_here"] spOther) (O__law_letters : Own P w K mg base 2 "_law_letters" ["_law_bag_here"] spLetters) : FnOk P w K mg base CX0 4 f fd ["_law_bag_here", "_law_grid_here", "_law_word"] spThingD := by
  have nd := scThingD.nd
  refine F.ok scThingD (fun vs H Q E h => ?_) (fun cdv A outer s H vs Q E hr h => ⟨_, PSs.nox (pss_cons (ps_if (pt_cmpR op_eq (pv 2) pe_str (nomark _)) (pss_one (ps_ret (pe_op (r := rCatT K) op_catT (pe_op (r := rCatT K) op_catT (pe_tup (pa_cons pe_str pa_nil)) (Hs.pe_own O__law_spot hr (by first | decide | omega) (by rfl) (pa_cons (pv 0) (pa_cons (pv 1) pa_nil)))) (Hs.pe_own O__law_tint hr (by first | decide | omega) (by rfl) (pa_cons (pv 0) pa_nil))))) pss_nil)
  (pss_cons (ps_if (pt_cmpR op_eq (pv 2) pe_str (nomark _)) (pss_one (ps_ret (pe_op (r := rCatT K) op_catT (pe_tup (pa_cons pe_str pa_nil)) (Hs.pe_own O__law_block hr (by first | decide | omega) (by rfl) (pa_cons (pv 0) (pa_cons (pv 1) pa_nil)))))) pss_nil)
  (pss_cons (ps_set (i := 3) nd rfl (.inl rfl) (Hs.pe_own O__law_spot hr (by first | decide | omega) (by rfl) (pa_cons (pv 0) (pa_cons (pv 1) pa_nil))))
  (pss_one (ps_ret (pe_op (r := rCatT K) op_catT (pe_op (r := rCatT K) op_catT (pe_op (r := rCatT K) op_catT (pe_tup (pa_cons pe_str pa_nil)) (pv 3)) (Hs.pe_own O__law_other_spot hr (by first | decide | omega) (by rfl) (pa_cons (pv 0) (pa_cons (pv 1) (pa_cons (pv 3) pa_nil))))) (pe_tup (pa_cons (Hs.pe_own O__law_letters hr (by first | decide | omega) (by rfl) (pa_cons (pv 0) pa_nil)) pa_nil)))))))), ?_⟩)
  · obtain ⟨b, l, g, ns, n, w, x, y, wd, rfl, _⟩ := h
    rfl
  · obtain ⟨b, l, g, ns, n, w, x, y, wd, rfl, B, hn, hg, G, hw, k⟩ := h
    refine q_when (b := decide (wd = "lamp")) (et_is (et_test (ev_op (ev_var rfl) ev_c (rv_eq rfl))) (by by_cases e : wd = "lamp" <;> simp [e])) (fun ht H1 e1 => ?_) (fun ht H1 e1 => ?_)
    · have ew := of_decide_eq_true ht
      refine ⟨sz_of (by simp), fun t ht => ⟨_, rfl, _, rfl, b, l, g, ns, n, w, x, y, rfl, (B.ext e1 (Nat.le_refl _)).ext (Ex.new ht) (Nat.le_refl _), by omega, (e1.trans (Ex.new ht)) _ _ hg, G, fun p z H2 hz np hp B2 b2 => ?_⟩⟩
      have xt := Ex.new (o := .tup [V.str "lamp"]) ht
      have t2 := b2.tup ((B.ext e1 (Nat.le_refl _)).ext xt (Nat.le_refl _)) (upd_same (H := H1) (a := t) (o := .tup [V.str "lamp"]))
      refine ⟨t, p, _, _, rfl, rfl, st_of t2, st_of hp, by simp, by show 1 + 2 ≤ sizeLine; decide, (fun z => by cases z), fun _ q hq => ?_⟩
      have xq := Ex.new (o := .tup ([V.str "lamp"] ++ prV z)) hq
      refine ⟨_, rfl, b, l, ns, n + 2, rfl, B2.ext xq (Nat.le_refl _), by omega, fun r c H3 hc nr hr3 B3 b3 => ?_⟩
      have q3 := b3.tup (B2.ext xq (Nat.le_refl _)) (upd_same (H := H2) (a := q) (o := .tup ([V.str "lamp"] ++ prV z)))
      refine ⟨q, r, _, _, rfl, rfl, st_of q3, st_of hr3, by simp, by show 3 + 3 ≤ sizeLine; decide, (fun z => by cases z), fun _ u hu => ?_⟩
      have bA : But H H3 b := (((But.of (e1.trans xt)).trans b2).ex xq).trans b3
      exact k u (.lamp (z.1, z.2, c)) _ ⟨hz, hc⟩ ew.symm (bA.fresh B3 hu) upd_same (B3.ext (Ex.new hu) (by omega)) (bA.ex (Ex.new hu))
    · have ew : wd ≠ "lamp" := of_decide_eq_false ht
      refine q_when (b := decide (wd = "post")) (et_is (et_test (ev_op (ev_var rfl) ev_c (rv_eq rfl))) (by by_cases e : wd = "post" <;> simp [e])) (fun ht H2 e2 => ?_) (fun ht H2 e2 => ?_)
      · have ewd := of_decide_eq_true ht
        have e12 := e1.trans e2
        refine ⟨sz_of (by simp), fun t ht => ⟨_, rfl, _, rfl, b, l, g, ns, n, w, x, y, rfl, (B.ext e12 (Nat.le_refl _)).ext (Ex.new ht) (Nat.le_refl _), by omega, (e12.trans (Ex.new ht)) _ _ hg, G, fun p Bk H3 hv hb hp B3 b3 => ?_⟩⟩
        have xt := Ex.new (o := .tup [V.str "post"]) ht
        have t3 := b3.tup ((B.ext e12 (Nat.le_refl _)).ext xt (Nat.le_refl _)) (upd_same (H := H2) (a := t) (o := .tup [V.str "post"]))
        refine ⟨t, p, _, _, rfl, rfl, st_of t3, st_of hp, by simp, by show 1 + 4 ≤ sizeLine; decide, (fun z => by cases z), fun _ u hu => ?_⟩
        have bA : But H H3 b := (But.of (e12.trans xt)).trans b3
        exact k u (.post Bk) _ ⟨hv, hb⟩ ewd.symm (bA.fresh B3 hu) upd_same (B3.ext (Ex.new hu) (by omega)) (bA.ex (Ex.new hu))
      · have ewd : wd = "pane" := by
          have : wd ≠ "post" := of_decide_eq_false ht
          rcases hw with h | h | h
          · exact absurd h ew
          · exact absurd h this
          · exact h
        have e12 := e1.trans e2
        refine ⟨_, rfl, _, rfl, b, l, g, ns, n, w, x, y, rfl, B.ext e12 (Nat.le_refl _), by omega, e12 _ _ hg, G, fun p1 z1 H3 hz1 np1 hp1 B3 b3 => ?_⟩
        dsimp only [gName, List.set]
        refine ⟨sz_of (by simp), fun t ht => ⟨_, rfl, t, p1, _, _, rfl, rfl, st_of upd_same, st_of ((Ex.new ht) _ _ hp1), by simp, by show 1 + 2 ≤ sizeLine; decide, (fun z => by cases z), fun _ q hq => ?_⟩⟩
        have x4 := (Ex.new (o := .tup [V.str "pane"]) ht).trans (Ex.new (o := .tup ([V.str "pane"] ++ prV z1)) hq)
        have q4 := upd_same (H := upd H3 t (.tup [V.str "pane"])) (a := q) (o := .tup ([V.str "pane"] ++ prV z1))
        have g3 := b3.tup (B.ext e12 (Nat.le_refl _)) (e12 _ _ hg)
        refine ⟨_, rfl, _, rfl, _, rfl, b, l, g, p1, ns, n + 2, w, x, y, z1, rfl, B3.ext x4 (Nat.le_refl _), by omega, x4 _ _ g3, G, x4 _ _ hp1, hz1, fun p2 z2 H5 hz2 ne2 np2 hp2 B5 b5 => ?_⟩
        have q5 := b5.tup (B3.ext x4 (Nat.le_refl _)) q4
        refine ⟨q, p2, _, _, rfl, rfl, st_of q5, st_of hp2, by simp, by show 3 + 2 ≤ sizeLine; decide, (fun z => by cases z), fun _ r hr => ?_⟩
        have x6 := Ex.new (o := .tup ([V.str "pane"] ++ prV z1 ++ prV z2)) hr
        have r6 := upd_same (H := H5) (a := r) (o := .tup ([V.str "pane"] ++ prV z1 ++ prV z2))
        have B6 := B5.ext x6 (Nat.le_refl _)
        refine ⟨_, rfl, b, l, ns, n + 4, rfl, B6, by omega, fun zz H7 hzz B7 b7 => ⟨sz_of (by simp), fun s hs => ?_⟩⟩
        have x8 := Ex.new (o := .tup [V.str zz]) hs
        refine ⟨r, s, _, _, rfl, rfl, st_of (x8 _ _ (b7.tup B6 r6)), st_of upd_same, by simp, by show 5 + 1 ≤ sizeLine; decide, (fun z => by cases z), fun _ u hu => ?_⟩
        have bA : But H (upd H7 s (.tup [V.str zz])) b := ((((((But.of e12).trans b3).ex x4).trans b5).ex x6).trans b7).ex x8
        have B8 := B7.ext x8 (Nat.le_refl _)
        exact k u (.pane z1 z2 zz) _ ⟨⟨hz1, hz2⟩, ne2, hzz⟩ ewd.symm (bA.fresh B8 hu) upd_same (B8.ext (Ex.new hu) (by omega)) (bA.ex (Ex.new hu))
end
end Hs
namespace Hs
open PySem PySem.Spec PyProof.Rows L2 Evl
/-! ### the law's own model of a floor -/
abbrev LM := List Chc × Int × Int × Bool
def LampM (K : PySem.W.Frag) (H : Hp) (v : V) (l : LM) : Prop := ∃ (th ch : Addr) (ps : List Addr), v = .ref th ∧ SqT K H th [.ref ch, .int l.2.1, .int l.2.2.1, .bl l.2.2.2] ∧ SqT K H ch (ps.map V.ref) ∧ ps.length = l.1.length ∧ ∀ (i : Nat) (p : Addr) (c : Chc), ps[i]? = some p → l.1[i]? = some c → SqT K H p (chv c)
def BlkM (K : PySem.W.Frag) (n : Nat) (H : Hp) (v : V) (B : Blk) : Prop := ∃ p, v = .ref p ∧ Bl K n H p B
def PanM (K : PySem.W.Frag) (n : Nat) (H : Hp) (v : V) (N : Pan) : Prop := ∃ p a b, v = .ref p ∧ SqT K H p [.ref a, .ref b, .str N.2.2] ∧ Pl K n H a N.1 ∧ Pl K n H b N.2.1
def TabA {α : Type} (G : V → α → Prop) (ts : List (Key × V)) (xs : List (Int × α)) : Prop := ts.length = xs.length ∧ ∀ (i : Nat) (k : Key) (v : V) (x : Int × α), ts[i]? = some (k, v) → xs[i]? = some x → k = .inl x.1 ∧ G v x.2
theorem TabA.mono {α : Type} {G G' : V → α → Prop} {ts : List (Key × V)} {xs : List (Int × α)} (h : TabA G ts xs) (g : ∀ v x, G v x → G' v x) : TabA G' ts xs := ⟨h.1, fun i k v x h1 h2 => ⟨(h.2 i k v x h1 h2).1, g _ _ (h.2 i k v x h1 h2).2⟩⟩
theorem Kp.pl {K : PySem.W.Frag} {n : Nat} {H H' : Hp} {p : Addr} {x : Pt} (e : Kp H H') (h : Pl K n H p x) : Pl K n H' p x := ⟨e.sqt h.1, h.2⟩
theorem Kp.lampM {K : PySem.W.Frag} {H H' : Hp} {v : V} {l : LM} (e : Kp H H') (h : LampM K H v l) : LampM K H' v l := let ⟨th, ch, ps, h1, h2, h3, h4, h5⟩ := h; ⟨th, ch, ps, h1, e.sqt h2, e.sqt h3, h4, fun i p c g1 g2 => e.sqt (h5 i p c g1 g2)⟩
theorem Kp.blkM {K : PySem.W.Frag} {n : Nat} {H H' : Hp} {v : V} {B : Blk} (e : Kp H H') (h : BlkM K n H v B) : BlkM K n H' v B := let ⟨p, h1, h2⟩ := h; ⟨p, h1, e.sqt h2.1, h2.2⟩
theorem Kp.panM {K : PySem.W.Frag} {n : Nat} {H H' : Hp} {v : V} {N : Pan} (e : Kp H H') (h : PanM K n H v N) : PanM K n H' v N := let ⟨p, a, b, h1, h2, h3, h4⟩ := h; ⟨p, a, b, h1, e.sqt h2, e.pl h3, e.pl h4⟩
theorem TabA.snoc {α : Type} {G : V → α → Prop} {ts : List (Key × V)} {xs : List (Int × α)} (h : TabA G ts xs) {k : Int} {v : V} {x : α} (g : G v x) : TabA G (ts ++ [(.inl k, v)]) (xs ++ [(k, x)]) := by
  refine ⟨by rw [List.length_append, List.length_append, h.1] <;> rfl, fun i k' v' x' h1 h2 => ?_⟩
  by_cases hi : i < ts.length
  · rw [List.getElem?_append_left hi] at h1
    rw [List.getElem?_append_left (by rw [← h.1]; exact hi)] at h2
    exact h.2 i k' v' x' h1 h2
  · rw [List.getElem?_append_right (by omega)] at h1
    rw [List.getElem?_append_right (by rw [← h.1]; omega), ← h.1] at h2
    have e0 : i - ts.length = 0 := by
      have : i - ts.length < 1 := (List.getElem?_eq_some_iff.mp h1).1
      omega
    rw [e0] at h1 h2
    cases h1
    cases h2
    exact ⟨rfl, g⟩
theorem TabA.keys {α : Type} {G : V → α → Prop} {ts : List (Key × V)} {xs : List (Int × α)} (h : TabA G ts xs) : ts.map (·.1) = (xs.map (·.1)).map Sum.inl := by
  refine List.ext_getElem (by simp [h.1]) fun i h1 h2 => ?_
  have hi : i < ts.length := by simpa using h1
  have hx : i < xs.length := by rw [← h.1]; exact hi
  rw [List.getElem_map, List.getElem_map, List.getElem_map]
  exact (h.2 i ts[i].1 ts[i].2 xs[i] (List.getElem?_eq_getElem hi) (List.getElem?_eq_getElem hx)).1
/-- numbers that rise, all below the next one -/
def Up {α : Type} (xs : List (Int × α)) (c : Int) : Prop := (xs.map (·.1)).Pairwise (· < ·) ∧ ∀ x ∈ xs, x.1 < c
theorem Up.snoc {α : Type} {xs : List (Int × α)} {c : Int} (h : Up xs c) {x : α} : Up (xs ++ [(c, x)]) (c + 1) := by
  refine ⟨?_, fun y hy => ?_⟩
  · rw [List.map_append, List.map_singleton, List.pairwise_append]
    refine ⟨h.1, List.pairwise_singleton _ _, fun a ha b hb => ?_⟩
    obtain ⟨z, hz, rfl⟩ := List.mem_map.mp ha
    rw [List.mem_singleton.mp hb]
    exact h.2 z hz
  · rcases List.mem_append.mp hy with q | q
    · have := h.2 y q
      omega
    · rw [List.mem_singleton.mp q]
      show c < c + 1
      omega
theorem TabA.put {α : Type} {G : V → α → Prop} {ts : List (Key × V)} {xs : List (Int × α)} {c : Int} (h : TabA G ts xs) (u : Up xs c) {v : V} {x : α} (g : G v x) : TabA G (putK ts (.inl c) v) (xs ++ [(c, x)]) := by
  rw [putK_new]
  · exact h.snoc g
  · intro p hp e
    have hm : p.1 ∈ ts.map (·.1) := List.mem_map.mpr ⟨p, hp, rfl⟩
    rw [h.keys, e] at hm
    obtain ⟨y, hy, e2⟩ := List.mem_map.mp hm
    obtain ⟨z, hz, rfl⟩ := List.mem_map.mp hy
    have e3 : z.1 = c := Sum.inl.inj e2
    have := u.2 z hz
    omega
structure Md where
  lamps : List (Int × LM)
  posts : List (Int × Blk)
  panes : List (Int × Pan)
  looks : List (Key × V)
  cl : Int
  cp : Int
  cn : Int
  ck : Int
def comC (a b c d : Int) : List (Key × V) := [(.inr "lamp", .int a), (.inr "post", .int b), (.inr "pane", .int c), (.inr "look", .int d)]
structure MdA (K : PySem.W.Frag) (n : Nat) (H : Hp) (m : Addr) (M : Md) : Prop where
  ex : ∃ T : Tabs5, RawM H m T ∧ T "came" = comC M.cl M.cp M.cn M.ck ∧ T "look" = M.looks ∧ TabA (LampM K H) (T "lamp") M.lamps ∧ TabA (BlkM K n H) (T "post") M.posts ∧ TabA (PanM K n H) (T "pane") M.panes
  ul : Up M.lamps M.cl
  up : Up M.posts M.cp
  un : Up M.panes M.cn
  few : M.lamps.length ≤ 30 ∧ M.posts.length ≤ 30 ∧ M.panes.length ≤ 30 ∧ M.looks.length ≤ 100
theorem MdA.keep {K : PySem.W.Frag} {n : Nat} {H H' : Hp} {m : Addr} {M : Md} (h : MdA K n H m M) (e : Kp H H') : MdA K n H' m M := by
  obtain ⟨T, h1, h2, h3, h4, h5, h6⟩ := h.ex
  exact ⟨⟨T, e.raw h1, h2, h3, h4.mono fun _ _ => e.lampM, h5.mono fun _ _ => e.blkM, h6.mono fun _ _ => e.panM⟩, h.ul, h.up, h.un, h.few⟩
theorem MdA.ext {K : PySem.W.Frag} {n : Nat} {H H' : Hp} {m : Addr} {M : Md} (h : MdA K n H m M) (e : Ex H H') : MdA K n H' m M := h.keep (Kp.of e)
def Md.new : Md := ⟨[], [], [], [], 1, 1, 1, 1⟩
theorem MdA.new {K : PySem.W.Frag} {n : Nat} {H : Hp} {m : Addr} {T : Tabs5} (h : RawM H m T) (h0 : ∀ w : Str, w ≠ "came" → T w = []) (hc : T "came" = comingV) : MdA K n H m Md.new := by
  have e1 := h0 "lamp" (by decide +kernel)
  have e2 := h0 "post" (by decide +kernel)
  have e3 := h0 "pane" (by decide +kernel)
  have e4 := h0 "look" (by decide +kernel)
  refine ⟨⟨T, h, hc, e4, ?_, ?_, ?_⟩, ⟨List.Pairwise.nil, fun x hx => by cases hx⟩, ⟨List.Pairwise.nil, fun x hx => by cases hx⟩, ⟨List.Pairwise.nil, fun x hx => by cases hx⟩, ⟨Nat.zero_le _, Nat.zero_le _, Nat.zero_le _, Nat.zero_le _⟩⟩
  · rw [e1]
    exact ⟨rfl, fun i k v x h1 _ => by cases h1⟩
  · rw [e2]
    exact ⟨rfl, fun i k v x h1 _ => by cases h1⟩
  · rw [e3]
    exact ⟨rfl, fun i k v x h1 _ => by cases h1⟩
def Md.put (M : Md) : Deed → Md
  | .lamp c => { M with lamps := M.lamps ++ [(M.cl, ([c], 0, 0, true))], cl := M.cl + 1 }
  | .post B => { M with posts := M.posts ++ [(M.cp, B)], cp := M.cp + 1 }
  | .pane a b z => { M with panes := M.panes ++ [(M.cn, (a, b, z))], cn := M.cn + 1 }
def spAfter (K : PySem.W.Frag) (n : Nat) : Sp := fun vs H Q _ => ∃ (m d : Addr) (M : Md) (D : Deed), vs = [.ref m, .ref d] ∧ MdA K n H m M ∧ SqT K H d D.vals ∧ D.good n ∧ M.lamps.length < 30 ∧ M.posts.length < 30 ∧ M.panes.length < 30 ∧ ∀ a H', H a = none → Ex H H' → MdA K n H' a (M.put D) → Q (.ref a) H'
theorem MdA.len {K : PySem.W.Frag} {n : Nat} {H : Hp} {m : Addr} {M : Md} (h : MdA K n H m M) {T : Tabs5} (h2 : T "came" = comC M.cl M.cp M.cn M.ck) (h3 : T "look" = M.looks) (h4 : TabA (LampM K H) (T "lamp") M.lamps) (h5 : TabA (BlkM K n H) (T "post") M.posts) (h6 : TabA (PanM K n H) (T "pane") M.panes) : ∀ w ∈ mW, (T w).length ≤ 1000 := fun w hw => by
  obtain ⟨f1, f2, f3, f4⟩ := h.few
  simp only [mW, List.mem_cons, List.not_mem_nil, or_false] at hw
  rcases hw with rfl | rfl | rfl | rfl | rfl
  · rw [h4.1]
    omega
  · rw [h5.1]
    omega
  · rw [h6.1]
    omega
  · rw [h3]
    omega
  · rw [h2]
    show 4 ≤ 1000
    decide
section
variable {P : Program} {w : World} {K : PySem.W.Frag} {mg : Str → Option Value} {base : Heap} {f : Addr} {fd : FuncData} {n : Nat}
abbrev sAfter : Stmt := top 128
theorem scAfter : FnScope ["_law_m", "_law_deed", "_law_word"] ["_law_m", "_law_deed"] (defScope sAfter) := ⟨rfl, rfl, rfl, by decide +kernel, rfl, by decide +kernel, by decide +kernel⟩
theorem putM_at {T : Tabs5} {wd : Str} {n : Int} {v : V} : putM T wd n v "came" = putK (T "came") (.inr wd) (.int (n + 1)) := if_pos rfl
theorem putM_own {T : Tabs5} {wd : Str} {n : Int} {v : V} (h : wd ≠ "came") : putM T wd n v wd = putK (T wd) (.inl n) v := by
  unfold putM
  rw [if_neg h, if_pos rfl]
theorem putM_ne {T : Tabs5} {wd u : Str} {n : Int} {v : V} (h : u ≠ "came") (h2 : u ≠ wd) : putM T wd n v u = T u := by
  unfold putM
  rw [if_neg h, if_neg h2]
theorem ok_after (F : FnP K "_law_after_put" sAfter f fd) (O__law_put : Own P w K mg base 2 "_law_put" ["_law_m", "_law_word", "_law_thing"] spPutM) (g_tuple : mg "tuple" = none) : FnOk P w K mg base CX0 3 f fd ["_law_m", "_law_deed"] (spAfter K n) := by
  have nd := scAfter.nd
  refine F.ok scAfter (fun vs H Q E h => ?_) (fun cdv A outer s H vs Q E hr h => ⟨_, PSs.nox (pss_cons (ps_set (i := 2) nd rfl (.inl rfl) (pe_ix (r := rIxT K) ix_tup (pv 1) pe_int (fun _ _ => rfl)))
  (pss_cons (ps_if (pt_cmpR op_in_seq (pv 2) (pe_tup (pa_cons pe_str (pa_cons pe_str pa_nil))) (by rfl)) (pss_one (ps_ret (Hs.pe_own O__law_put hr (by first | decide | omega) (by rfl) (pa_cons (pv 0) (pa_cons pe_str (pa_cons (pe_tup (pa_cons (pe_ifExp (pt_cmpR op_eq (pv 2) pe_str (nomark _)) (pe_callTy call_tuple_of (by rfl) g_tuple (by decide +kernel) (pa_cons (pe_ix (r := rIxT K) ix_tup (pv 1) pe_int (fun _ _ => rfl)) pa_nil)) (pe_tup (pa_cons (pe_slice sl_tup (pv 1) (po_some pe_int) po_none) pa_nil))) (pa_cons pe_int (pa_cons pe_int (pa_cons pe_bl pa_nil))))) pa_nil)))))) pss_nil)
  (pss_cons (ps_if (pt_cmpR op_eq (pv 2) pe_str (nomark _)) (pss_one (ps_ret (Hs.pe_own O__law_put hr (by first | decide | omega) (by rfl) (pa_cons (pv 0) (pa_cons pe_str (pa_cons (pe_slice sl_tup (pv 1) (po_some pe_int) po_none) pa_nil)))))) pss_nil)
  (pss_one (ps_ret (Hs.pe_own O__law_put hr (by first | decide | omega) (by rfl) (pa_cons (pv 0) (pa_cons pe_str (pa_cons (pe_tup (pa_cons (pe_slice sl_tup (pv 1) (po_some pe_int) (po_some pe_int)) (pa_cons (pe_slice sl_tup (pv 1) (po_some pe_int) (po_some pe_int)) (pa_cons (pe_ix (r := rIxT K) ix_tup (pv 1) pe_int (fun _ _ => rfl)) pa_nil)))) pa_nil))))))))), ?_⟩)
  · obtain ⟨m, d, M, D, rfl, _⟩ := h
    rfl
  · obtain ⟨m, d, M, D, rfl, hM, hd, hg, l1, l2, l3, k⟩ := h
    obtain ⟨T, hR, hc, hk, hl, hp, hn⟩ := hM.ex
    have hz := hM.len hc hk hl hp hn
    have ul := hM.ul
    have upp := hM.up
    have un := hM.un
    obtain ⟨f1, f2, f3, f4⟩ := hM.few
    have nlp : ("lamp" : Str) ≠ "post" := by decide +kernel
    have nln : ("lamp" : Str) ≠ "pane" := by decide +kernel
    have nlk : ("lamp" : Str) ≠ "look" := by decide +kernel
    have nlc : ("lamp" : Str) ≠ "came" := by decide +kernel
    have npn : ("post" : Str) ≠ "pane" := by decide +kernel
    have npk : ("post" : Str) ≠ "look" := by decide +kernel
    have npc : ("post" : Str) ≠ "came" := by decide +kernel
    have nnk : ("pane" : Str) ≠ "look" := by decide +kernel
    have nnc : ("pane" : Str) ≠ "came" := by decide +kernel
    have nkc : ("look" : Str) ≠ "came" := by decide +kernel
    have at0 : atI D.vals 0 = some (.str D.wd) := by cases D <;> rfl
    refine q_asg (ev_ixt (xs := D.vals) rfl hd at0) fun H1 e1 => ?_
    dsimp only [List.set]
    have hd1 := ex_t e1 hd
    refine q_when (ev_inU (xs := [.str "lamp", .str "unsure"]) (ev_var rfl) (eu_tup (ea_cons ev_c (ea_cons ev_c ea_nil)) (by simp)) rfl rfl |> et_test) (fun ht H2 e2 => ?_) (fun ht H2 e2 => ?_)
    · cases D with
      | lamp c =>
        have e12 := e1.trans e2
        have hd2 := ex_t e2 hd1
        refine ⟨_, rfl, ?_⟩
        refine (et_test (ev_op (ev_var rfl) ev_c (rv_eq rfl)) : EvT _ _ H2 false) H2 (Ex.refl H2) _ fun H3 e3 => ?_
        dsimp only
        refine ite_F rfl ?_
        refine ⟨_, rfl, 1, rfl, d, _, rfl, ex_t e3 hd2, (fun z => nomatch (show (1 : Nat) = 0 from z.1)), fun c1 hc1 => ⟨sz_of (by simp), fun ch hch => ⟨sz_of (by simp), fun th hth => ?_⟩⟩⟩
        have x1 := Ex.new (o := .tup (cutV (Deed.lamp c).vals (some 1) none)) hc1
        have x2 := Ex.new (o := .tup [V.ref c1]) hch
        have x3 := Ex.new (o := .tup [V.ref ch, .int 0, .int 0, .bl true]) hth
        have x23 := x2.trans x3
        have e0 := (e12.trans e3).trans (x1.trans x23)
        refine ⟨m, T, "lamp", M.cl, .ref th, rfl, hR.ext e0, hz, by decide +kernel, nlc, by rw [hc] <;> rfl, fun a H4 na e4 hR4 => ?_⟩
        have e04 := e0.trans e4
        have kp := Kp.of e04
        refine k a H4 (fresh_back e0 na) e04 ⟨⟨_, hR4, by rw [putM_at, hc] <;> rfl, by rw [putM_ne nkc (Ne.symm nlk)]; exact hk, ?_, ?_, ?_⟩, ul.snoc, upp, un, ⟨by show (M.lamps ++ [_]).length ≤ 30; rw [List.length_append]; exact l1, f2, f3, f4⟩⟩
        · rw [putM_own nlc]
          refine (hl.mono fun _ _ => kp.lampM).put ul ⟨th, ch, [c1], rfl, st_of (e4 _ _ upd_same), st_of ((x3.trans e4) _ _ upd_same), rfl, fun i p c' hp' hc' => ?_⟩
          match i, hp', hc' with
          | 0, hp', hc' =>
            cases hp'
            cases hc'
            exact st_of ((x23.trans e4) _ _ upd_same)
          | i + 1, hp', hc' => cases hp'
        · rw [putM_ne npc (Ne.symm nlp)]
          exact hp.mono fun _ _ => kp.blkM
        · rw [putM_ne nnc (Ne.symm nln)]
          exact hn.mono fun _ _ => kp.panM
      | post B => exact absurd ht (show ¬ inV (V.str "post") [V.str "lamp", .str "unsure"] = true by decide +kernel)
      | pane a b z => exact absurd ht (show ¬ inV (V.str "pane") [V.str "lamp", .str "unsure"] = true by decide +kernel)
    · refine q_when (et_test (ev_op (ev_var rfl) ev_c (rv_eq rfl))) (fun ht2 H3 e3 => ?_) (fun ht2 H3 e3 => ?_)
      · cases D with
        | lamp c => exact absurd ht2 (show ¬ decide (V.str "lamp" = V.str "post") = true by decide +kernel)
        | pane a b z => exact absurd ht2 (show ¬ decide (V.str "pane" = V.str "post") = true by decide +kernel)
        | post B =>
          have e13 := (e1.trans e2).trans e3
          refine ⟨_, rfl, _, rfl, 1, rfl, d, _, rfl, ex_t e13 hd, (fun z => nomatch (show (1 : Nat) = 0 from z.1)), fun c1 hc1 => ?_⟩
          have x1 := Ex.new (o := .tup (cutV (Deed.post B).vals (some 1) none)) hc1
          have e0 := e13.trans x1
          refine ⟨m, T, "post", M.cp, .ref c1, rfl, hR.ext e0, hz, by decide +kernel, npc, by rw [hc] <;> rfl, fun a H4 na e4 hR4 => ?_⟩
          have e04 := e0.trans e4
          have kp := Kp.of e04
          refine k a H4 (fresh_back e0 na) e04 ⟨⟨_, hR4, by rw [putM_at, hc] <;> rfl, by rw [putM_ne nkc (Ne.symm npk)]; exact hk, ?_, ?_, ?_⟩, ul, upp.snoc, un, ⟨f1, by show (M.posts ++ [_]).length ≤ 30; rw [List.length_append]; exact l2, f3, f4⟩⟩
          · rw [putM_ne nlc nlp]
            exact hl.mono fun _ _ => kp.lampM
          · rw [putM_own npc]
            exact (hp.mono fun _ _ => kp.blkM).put upp ⟨c1, rfl, st_of (e4 _ _ upd_same), hg.2.2⟩
          · rw [putM_ne nnc (Ne.symm npn)]
            exact hn.mono fun _ _ => kp.panM
      · cases D with
        | lamp c => exact absurd ht (show ¬ inV (V.str "lamp") [V.str "lamp", .str "unsure"] = false by decide +kernel)
        | post B => exact absurd ht2 (show ¬ decide (V.str "post" = V.str "post") = false by decide +kernel)
        | pane a b z =>
          have e13 := (e1.trans e2).trans e3
          have hd3 := ex_t e13 hd
          refine ⟨_, rfl, _, rfl, 1, rfl, 3, rfl, d, _, rfl, hd3, (fun z => nomatch (show (1 : Nat) = 0 from z.1)), fun c1 hc1 => ⟨_, rfl, 3, rfl, 5, rfl, d, _, rfl, ex_t (Ex.new hc1) hd3, (fun z => nomatch (show (3 : Nat) = 0 from z.1)), fun c2 hc2 => ?_⟩⟩
          have x1 := Ex.new (o := .tup (cutV (Deed.pane a b z).vals (some 1) (some 3))) hc1
          have x2 := Ex.new (o := .tup (cutV (Deed.pane a b z).vals (some 3) (some 5))) hc2
          have at5 : atI (Deed.pane a b z).vals 5 = some (.str z) := rfl
          refine ⟨_, rfl, d, _, 5, _, rfl, rfl, ex_t (x1.trans x2) hd3, at5, sz_of (by simp), fun th hth => ?_⟩
          have x3 := Ex.new (o := .tup [V.ref c1, .ref c2, .str z]) hth
          have e0 := e13.trans ((x1.trans x2).trans x3)
          refine ⟨m, T, "pane", M.cn, .ref th, rfl, hR.ext e0, hz, by decide +kernel, nnc, by rw [hc] <;> rfl, fun q H4 nq e4 hR4 => ?_⟩
          have e04 := e0.trans e4
          have kp := Kp.of e04
          refine k q H4 (fresh_back e0 nq) e04 ⟨⟨_, hR4, by rw [putM_at, hc] <;> rfl, by rw [putM_ne nkc (Ne.symm nnk)]; exact hk, ?_, ?_, ?_⟩, ul, upp, un.snoc, ⟨f1, f2, by show (M.panes ++ [_]).length ≤ 30; rw [List.length_append]; exact l3, f4⟩⟩
          · rw [putM_ne nlc nln]
            exact hl.mono fun _ _ => kp.lampM
          · rw [putM_ne npc npn]
            exact hp.mono fun _ _ => kp.blkM
          · rw [putM_own nnc]
            exact (hn.mono fun _ _ => kp.panM).put un ⟨th, c1, c2, rfl, st_of (e4 _ _ upd_same), ⟨st_of ((((x2.trans x3).trans e4)) _ _ upd_same), hg.2.2.2.1⟩, ⟨st_of ((x3.trans e4) _ _ upd_same), hg.2.2.2.2⟩⟩
end
end Hs
namespace Hs
open PySem PySem.Spec PyProof.Rows L2 Evl
/-! ### reading the law's model -/
def rSortDI : List V → Hp → VK → Prop := fun xs H Q => ∃ (a : Addr) (kvs : List (Key × V)) (ks : List Int), xs = [.ref a] ∧ Rd H a (.dK kvs) ∧ kvs.map (·.1) = ks.map Sum.inl ∧ ks.length < 64 ∧ ∀ (ys : List Int) (p : Addr), ys.Perm ks → ys.Pairwise (· ≤ ·) → H p = none → Q (.ref p) (upd H p (.lst (ys.map V.int)))
theorem cr_sortDI {X : Cx} (hc : X.calm = true) : CallR X (.builtin "sorted") rSortDI := call_sortedDI hc
theorem up_nd {α : Type} {xs : List (Int × α)} (u : (xs.map (·.1)).Pairwise (· < ·)) : (xs.map (·.1)).Nodup := u.imp fun h => by omega
theorem TabA.nd {α : Type} {G : V → α → Prop} {ts : List (Key × V)} {xs : List (Int × α)} (h : TabA G ts xs) (u : (xs.map (·.1)).Pairwise (· < ·)) : (ts.map (·.1)).Nodup := by
  rw [h.keys]
  exact List.Pairwise.map _ (fun a b hab e => hab (Sum.inl.inj e)) (up_nd u)
theorem valV_nth : ∀ {ts : List (Key × V)} {i : Nat} {k : Key} {v : V}, (ts.map (·.1)).Nodup → ts[i]? = some (k, v) → valV ts k = some v
  | [], _, _, _, _, h => by cases h
  | p :: r, 0, k, v, _, h => by
    cases h
    exact valV_pos rfl
  | p :: r, i + 1, k, v, hn, h => by
    rw [List.map_cons, List.nodup_cons] at hn
    have h2 : r[i]? = some (k, v) := h
    rw [valV_neg]
    · exact valV_nth hn.2 h2
    · intro e
      exact hn.1 (List.mem_map.mpr ⟨(k, v), List.mem_of_getElem? h2, e.symm⟩)
theorem TabA.get {α : Type} {G : V → α → Prop} {ts : List (Key × V)} {xs : List (Int × α)} (h : TabA G ts xs) (u : (xs.map (·.1)).Pairwise (· < ·)) {i : Nat} {x : Int × α} (hx : xs[i]? = some x) : ∃ v, valV ts (.inl x.1) = some v ∧ G v x.2 := by
  have hi : i < ts.length := by
    rw [h.1]
    exact (List.getElem?_eq_some_iff.mp hx).1
  obtain ⟨e, g⟩ := h.2 i ts[i].1 ts[i].2 x (List.getElem?_eq_getElem hi) hx
  refine ⟨ts[i].2, valV_nth (h.nd u) (i := i) ?_, g⟩
  rw [List.getElem?_eq_getElem hi, ← e]
section
variable {σ : L2.St} {H : Hp} {K : PySem.W.Frag}
theorem ev_fz {td tk : TE} {a : Addr} {kvs : List (Key × V)} {key : Key} {z : V} (h : Ev td σ H (.ref a)) (hk : Ev tk σ H (kV key)) (ha : Fz H a kvs) (hv : valV kvs key = some z) : Ev (tDGet td tk) σ H z := fun H1 e Q q => h H1 e _ fun H2 e2 => hk H2 (e.trans e2) _ fun H3 e3 => ⟨a, z, rfl, by
  have g := (ha.ext ((e.trans e2).trans e3)).get (k := key)
  rw [hv] at g
  exact g, q H3 (e2.trans e3)⟩
theorem el_sort {α : Type} {td : TE} {d : Addr} {ts : List (Key × V)} {xs : List (Int × α)} (h : Ev td σ H (.ref d)) (hd : Fz H d ts) (hk : ts.map (·.1) = (xs.map (·.1)).map Sum.inl) (u : (xs.map (·.1)).Pairwise (· < ·)) (hz : xs.length < 64) : EvL (tCB rSortDI (tCons td tNil)) σ H ((xs.map (·.1)).map V.int) := fun H1 e Q q => h H1 e _ fun H2 e2 => ⟨d, ts, xs.map (·.1), rfl, (hd.ext (e.trans e2)).rd, hk, by rw [List.length_map]; exact hz, fun ys p hp hs hn => by
  have ey : ys = xs.map (·.1) := List.Perm.eq_of_pairwise (le := (· ≤ ·)) (fun a b _ _ h1 h2 => by omega) hs (u.imp fun h => by omega) hp
  rw [ey]
  exact q p _ (fresh_back e2 hn) (e2.trans (Ex.new hn)) upd_same⟩
end
theorem keys_at {α : Type} {xs : List (Int × α)} {i : Nat} {x : V} (h : ((xs.map (·.1)).map V.int)[i]? = some x) : ∃ y, xs[i]? = some y ∧ x = .int y.1 := by
  rw [List.getElem?_map, List.getElem?_map] at h
  cases hy : xs[i]? with
  | none =>
    rw [hy] at h
    cases h
  | some y =>
    rw [hy] at h
    cases h
    exact ⟨y, rfl, rfl⟩
def lsM (M : Md) : List (List Chc × Bool) := M.lamps.map fun x => (x.2.1, x.2.2.2.2)
theorem lsM_at {M : Md} {i : Nat} {x : Int × LM} (h : M.lamps[i]? = some x) : (lsM M)[i]? = some (x.2.1, x.2.2.2.2) := by
  unfold lsM
  rw [List.getElem?_map, h] <;> rfl
theorem nOn_len {ls : List (List Chc × Bool)} : (nOn ls).length = ls.length := by
  unfold nOn
  rw [List.length_map]
theorem lsM_len {M : Md} : (lsM M).length = M.lamps.length := by
  unfold lsM
  rw [List.length_map]
theorem cnts_given (ls : List (Nat × Bool)) : iv (cnts ls) = given ls.length (fun i => decide (1 < (ls.getD i (0, false)).1)) fun i => .int ((ls.getD i (0, false)).1 : Int) := by
  have e : ls = (List.range ls.length).map fun i => ls.getD i (0, false) := by
    refine List.ext_getElem (by simp) fun i h1 h2 => ?_
    simp [List.getD_eq_getElem?_getD, List.getElem?_eq_getElem h1]
  unfold given cnts
  conv => lhs; rw [e]
  rw [List.filter_map, List.map_map]
  show List.map V.int _ = _
  rw [List.map_map]
  rfl
def spCountsM (K : PySem.W.Frag) (n : Nat) : Sp := fun vs H Q _ => ∃ (m : Addr) (M : Md), vs = [.ref m] ∧ MdA K n H m M ∧ RetL (iv (cnts (nOn (lsM M)))) H Q
section
variable {P : Program} {w : World} {K : PySem.W.Frag} {mg : Str → Option Value} {base : Heap} {f : Addr} {fd : FuncData} {n : Nat}
abbrev sCountsM : Stmt := top 123
theorem scCountsM : FnScope ["_law_m", "_law_number"] ["_law_m"] (defScope sCountsM) := ⟨rfl, rfl, rfl, by decide +kernel, rfl, by decide +kernel, by decide +kernel⟩
theorem ok_countsM (F : FnP K "_law_counts" sCountsM f fd) (g_len : mg "len" = none) (g_sorted : mg "sorted" = none) : FnOk P w K mg base CX0 1 f fd ["_law_m"] (spCountsM K n) := by
  have nd := scCountsM.nd
  refine F.ok scCountsM (fun vs H Q E h => ?_) (fun cdv A outer s H vs Q E hr h => ⟨_, PSs.nox (pss_one (ps_ret (pe_lc (own := [("_law_number", 1)]) rfl nd (pi_list (pe_callB (r := Hs.rSortDI) (Hs.cr_sortDI rfl) (by rfl) g_sorted (by decide +kernel) (pa_cons (pe_dget (Hs.un1 hr) (pv 0) pe_str (fun _ _ => rfl)) pa_nil))) (blkOk_by (N := ["_law_m", "_law_number"]) (sc := defScope (Hs.top 123)) (by decide +kernel)) (fun _ _ _ _ _ => (pg_name (i := 1) nd rfl (Or.inl rfl))) (fun _ _ _ _ _ => (pts_one (pt_cmpR op_gt (pe_callB (r := Evl.rLenS K) call_len_seq (by rfl) g_len PySem.boot_len (pa_cons (pe_ix (r := rIxT K) ix_tup (pe_dget (Hs.un1 hr) (pe_dget (Hs.un1 hr) (pv 0) pe_str (fun _ _ => rfl)) (pv 1) (fun _ _ => rfl)) pe_int (fun _ _ => rfl)) pa_nil)) pe_int (nomark _)))) (fun _ _ _ _ _ => (pe_callB (r := Evl.rLenS K) call_len_seq (by rfl) g_len PySem.boot_len (pa_cons (pe_ix (r := rIxT K) ix_tup (pe_dget (Hs.un1 hr) (pe_dget (Hs.un1 hr) (pv 0) pe_str (fun _ _ => rfl)) (pv 1) (fun _ _ => rfl)) pe_int (fun _ _ => rfl)) pa_nil)))))), ?_⟩)
  · obtain ⟨m, M, rfl, _⟩ := h
    rfl
  · obtain ⟨m, M, rfl, hM, k⟩ := h
    obtain ⟨T, ⟨D, fm, fT⟩, hc, hk, hl, hp, hn⟩ := hM.ex
    have m1 : ("lamp" : Str) ∈ mW := by decide +kernel
    have hf := hM.few.1
    have hlen : ((M.lamps.map (·.1)).map V.int).length = (nOn (lsM M)).length := by rw [List.length_map, List.length_map, nOn_len, lsM_len]
    have at1 : ∀ {i : Nat} {x : V} {H1 : Hp}, Ex H H1 → ((M.lamps.map (·.1)).map V.int)[i]? = some x → ∃ (th ch : Addr) (cs : List V) (y : Int × LM), x = .int y.1 ∧ M.lamps[i]? = some y ∧ valV (T "lamp") (.inl y.1) = some (.ref th) ∧ SqT K H1 th [.ref ch, .int y.2.2.1, .int y.2.2.2.1, .bl y.2.2.2.2] ∧ SqT K H1 ch cs ∧ cs.length = y.2.1.length := fun {i x H1} e hx => by
      obtain ⟨y, hy, rfl⟩ := keys_at hx
      obtain ⟨v, hv, th, ch, ps, rfl, g1, g2, g3, g4⟩ := hl.get hM.ul.1 hy
      exact ⟨th, ch, _, y, rfl, hy, hv, ex_t e g1, ex_t e g2, by rw [List.length_map, g3]⟩
    have nOnd : ∀ {i : Nat} {y : Int × LM}, M.lamps[i]? = some y → (nOn (lsM M)).getD i (0, false) = (y.2.1.length, y.2.2.2.2) := fun {i y} hy => by rw [List.getD_eq_getElem?_getD, nOn_at (lsM_at hy)] <;> rfl
    refine s_retL ?_ k
    rw [cnts_given, ← hlen]
    refine el_lcNL _ _ (el_sort (xs := M.lamps) (ev_fz (key := .inr "lamp") (ev_var rfl) ev_c fm (valV_row m1)) (fT _ m1) hl.keys hM.ul.1 (by omega)) (by rw [List.length_map, List.length_map]; omega) (fun _ => rfl) (fun i x H1 e1 hx => ?_) (fun i x H1 e1 hx _ => ?_)
    · obtain ⟨th, ch, cs, y, rfl, hy, hv, g1, g2, g3⟩ := at1 e1 hx
      refine et_is (et_test (ev_op (ev_lenQ (K := K) (ev_op (ev_fz (key := .inl y.1) (ev_fz (key := .inr "lamp") (ev_var rfl) ev_c (fm.ext e1) (valV_row m1)) (ev_var rfl) ((fT _ m1).ext e1) hv) ev_c (rv_ixT g1 rfl)) (.inr g2)) ev_c rv_I0)) ?_
      rw [nOnd hy, g3]
      exact decide_eq_decide.mpr (by omega)
    · obtain ⟨th, ch, cs, y, rfl, hy, hv, g1, g2, g3⟩ := at1 e1 hx
      refine ev_is (ev_lenQ (K := K) (ev_op (ev_fz (key := .inl y.1) (ev_fz (key := .inr "lamp") (ev_var rfl) ev_c (fm.ext e1) (valV_row m1)) (ev_var rfl) ((fT _ m1).ext e1) hv) ev_c (rv_ixT g1 rfl)) (.inr g2)) ?_
      rw [nOnd hy, g3]
end
end Hs
namespace Hs
open PySem PySem.Spec PyProof.Rows L2 Evl
/-! ### deeds laid one behind another -/
def Deed.l : Deed → Option Chc
  | .lamp c => some c
  | _ => none
def Deed.p : Deed → Option Blk
  | .post B => some B
  | _ => none
def Deed.n : Deed → Option Pan
  | .pane a b z => some (a, b, z)
  | _ => none
def lampsD (Ds : List Deed) : List Chc := Ds.filterMap Deed.l
def postsD (Ds : List Deed) : List Blk := Ds.filterMap Deed.p
def panesD (Ds : List Deed) : List Pan := Ds.filterMap Deed.n
def figN (N : Pan) : Fig := .pane N.1 N.2.1 N.2.2
def CapD (Ds : List Deed) (L P N : Nat) : Prop := (lampsD Ds).length ≤ L ∧ (postsD Ds).length ≤ P ∧ (panesD Ds).length ≤ N
theorem CapD.take {Ds : List Deed} {L P N : Nat} (h : CapD Ds L P N) (i : Nat) : CapD (Ds.take i) L P N := by
  have e : Ds = Ds.take i ++ Ds.drop i := (List.take_append_drop i Ds).symm
  unfold CapD lampsD postsD panesD at h ⊢
  rw [e, List.filterMap_append, List.filterMap_append, List.filterMap_append, List.length_append, List.length_append, List.length_append] at h
  omega
def DeedsP (H : Hp) (zs : List (Addr × Deed)) : Prop := ∀ z ∈ zs, H z.1 = some (.tup z.2.vals)
theorem Kept.refl {H : Hp} {h p q : Addr} : Kept H H h p q := fun _ _ e _ _ _ => e
theorem Kept.trans {H H1 H2 : Hp} {h p q : Addr} (a : Kept H H1 h p q) (b : Kept H1 H2 h p q) : Kept H H2 h p q := fun x o e n1 n2 n3 => b x o (a x o e n1 n2 n3) n1 n2 n3
theorem Kept.of {H H1 : Hp} {h p q : Addr} (e : Ex H H1) : Kept H H1 h p q := fun x o z _ _ _ => e x o z
theorem HsB.ins {K : PySem.W.Frag} {C : Addr} {n : Nat} {H : Hp} {h dx p q : Addr} {m : Nat} {ls : List (List Chc × Bool)} {F2 F3 : List Fig} (a : HsB K C n H h dx p q m ls F2 F3) : ∃ fs, H h = some (.ins C dx fs) ∧ fs.lookup ("do" : Str) = none ∧ fs.lookup ("light" : Str) = none := by
  obtain ⟨s, fl, lk, cm, b, q2, q3, ts, t2, t3, ps, h1, _⟩ := a.ex
  exact ⟨_, h1, rfl, rfl⟩
theorem HsB.lsts {K : PySem.W.Frag} {C : Addr} {n : Nat} {H : Hp} {h dx p q : Addr} {m : Nat} {ls : List (List Chc × Bool)} {F2 F3 : List Fig} (a : HsB K C n H h dx p q m ls F2 F3) : (∃ xs, H p = some (.lst xs)) ∧ ∃ xs, H q = some (.lst xs) := by
  obtain ⟨s, fl, lk, cm, b, q2, q3, ts, t2, t3, ps, _, h2, _, h4, _⟩ := a.ex
  exact ⟨⟨_, h2⟩, _, h4⟩
theorem HsB.ext {K : PySem.W.Frag} {C : Addr} {n : Nat} {H H' : Hp} {h dx p q : Addr} {m : Nat} {ls : List (List Chc × Bool)} {F2 F3 : List Fig} (a : HsB K C n H h dx p q m ls F2 F3) (e : Ex H H') : HsB K C n H' h dx p q m ls F2 F3 := a.keep (Kp.of e) (fun _ z => e _ _ z) (fun _ z => e _ _ z) (fun _ z => e _ _ z) (Nat.le_refl _)
theorem HsB.kp {K : PySem.W.Frag} {C : Addr} {n : Nat} {H H' : Hp} {h dx p q : Addr} {m : Nat} {ls : List (List Chc × Bool)} {F2 F3 : List Fig} (a : HsB K C n H h dx p q m ls F2 F3) (k : Kept H H' h p q) : Kp H H' := by
  obtain ⟨fs, h1, _⟩ := a.ins
  obtain ⟨⟨_, h2⟩, _, h3⟩ := a.lsts
  exact k.kp h1 h2 h3
/-! ### the deeds of a floor -/
theorem DeedsP.but {H H' : Hp} {b l : Addr} {ns : List Int} {n : Nat} {zs : List (Addr × Deed)} (h : DeedsP H zs) (B : BagAt H b l ns n) (e : But H H' b) : DeedsP H' zs := fun z hz => e.tup B (h z hz)
theorem DeedsP.ext {H H' : Hp} {zs : List (Addr × Deed)} (h : DeedsP H zs) (e : Ex H H') : DeedsP H' zs := fun z hz => e _ _ (h z hz)
end Hs
namespace Hs
open PySem PySem.Spec PyProof.Rows L2 Evl
/-- a new object of an own class -/
structure MkX (P : Program) (w : World) (K : PySem.W.Frag) (mg : Str → Option Value) (base : Heap) (k : Nat) (x : Str) (C : Addr) (ps : List Str) (sp : Sp) : Prop where
  ex : ∃ (f : Addr) (fd : FuncData), Mk K C f ∧ FnOk P w K mg base CX0 k f fd ps sp ∧ mg x = some (.ref C) ∧ Binds K fd ps []
theorem pe_mkX {X : Cx} {k j : Nat} {x : Str} {C : Addr} {ps : List Str} {sp : Sp} {p pos : Pos} (M : MkX X.prog X.w X.K X.mg X.base k x C ps sp) (hr : Room j X.A) (hk : k + 1 ≤ j) (hg : Gl X x) (hdb : (x == ("__debug__" : Str)) = false := by decide) : PE X (.Call (.Name x p) [] [] pos) (tMake C sp [] E0 tNil) := by
  obtain ⟨f, fd, mk, F, m, b⟩ := M.ex
  exact pe_make0 mk F (hr.mono hk) hg m b .nil pass0 hdb
end Hs
namespace Hs
open PySem PySem.Spec PyProof.Rows L2 Evl
/-! ### states and houses in general: things by their numbers, looks with their floors -/
abbrev LT := List Chc × Bool
structure Flr where
  lamps : List (Int × LT)
  posts : List (Int × Blk)
  panes : List (Int × Pan)
structure Stt where
  fl : Flr
  looks : List (Int × (Pt × Tri × Flr))
  cl : Int
  cp : Int
  cn : Int
  ck : Int
def LampV (H : Hp) (v : V) (l : LT) : Prop := ∃ th, v = .ref th ∧ LampG H th l.1 l.2
structure FlrA (K : PySem.W.Frag) (n : Nat) (H : Hp) (fl : Addr) (F : Flr) : Prop where
  ex : ∃ (b q2 q3 : Addr) (t1 t2 t3 : List (Key × V)), Fz H fl (bareV b q2 q3) ∧ Fz H b t1 ∧ Fz H q2 t2 ∧ Fz H q3 t3 ∧ TabA (LampV H) t1 F.lamps ∧ TabA (fun v B => FigV K n H v (.post B)) t2 F.posts ∧ TabA (fun v N => FigV K n H v (figN N)) t3 F.panes
theorem Kp.lampV {H H' : Hp} {v : V} {l : LT} (e : Kp H H') (h : LampV H v l) : LampV H' v l := let ⟨th, h1, h2⟩ := h; ⟨th, h1, h2.keep fun _ _ z => e.tup z⟩
theorem Kp.flr {K : PySem.W.Frag} {n : Nat} {H H' : Hp} {fl : Addr} {F : Flr} (e : Kp H H') (h : FlrA K n H fl F) : FlrA K n H' fl F := by
  obtain ⟨b, q2, q3, t1, t2, t3, h1, h2, h3, h4, h5, h6, h7⟩ := h.ex
  exact ⟨b, q2, q3, t1, t2, t3, e.fz h1, e.fz h2, e.fz h3, e.fz h4, h5.mono fun _ _ => e.lampV, h6.mono fun _ _ => e.figv, h7.mono fun _ _ => e.figv⟩
theorem FlrA.ext {K : PySem.W.Frag} {n : Nat} {H H' : Hp} {fl : Addr} {F : Flr} (h : FlrA K n H fl F) (e : Ex H H') : FlrA K n H' fl F := (Kp.of e).flr h
def LookV (K : PySem.W.Frag) (n : Nat) (H : Hp) (v : V) (x : Pt × Tri × Flr) : Prop := ∃ lk pl lt fl, v = .ref lk ∧ SqT K H lk [.ref pl, .ref lt, .ref fl] ∧ SqT K H pl (prV x.1) ∧ SqT K H lt (tri x.2.1) ∧ FlrA K n H fl x.2.2
theorem Kp.lookV {K : PySem.W.Frag} {n : Nat} {H H' : Hp} {v : V} {x : Pt × Tri × Flr} (e : Kp H H') (h : LookV K n H v x) : LookV K n H' v x := let ⟨lk, pl, lt, fl, h1, h2, h3, h4, h5⟩ := h; ⟨lk, pl, lt, fl, h1, e.sqt h2, e.sqt h3, e.sqt h4, e.flr h5⟩
structure SttA (K : PySem.W.Frag) (n : Nat) (H : Hp) (s : Addr) (S : Stt) : Prop where
  ex : ∃ (fl lk cm : Addr) (tl : List (Key × V)), SqT K H s [.ref fl, .ref lk, .ref cm] ∧ FlrA K n H fl S.fl ∧ Fz H lk tl ∧ TabA (LookV K n H) tl S.looks ∧ Fz H cm (comC S.cl S.cp S.cn S.ck)
  ul : Up S.fl.lamps S.cl
  up : Up S.fl.posts S.cp
  un : Up S.fl.panes S.cn
  uk : Up S.looks S.ck
  few : S.fl.lamps.length ≤ 12 ∧ S.fl.posts.length ≤ 12 ∧ S.fl.panes.length ≤ 12 ∧ S.looks.length ≤ 24
theorem Kp.stt {K : PySem.W.Frag} {n : Nat} {H H' : Hp} {s : Addr} {S : Stt} (e : Kp H H') (h : SttA K n H s S) : SttA K n H' s S := by
  obtain ⟨fl, lk, cm, tl, h1, h2, h3, h4, h5⟩ := h.ex
  exact ⟨⟨fl, lk, cm, tl, e.sqt h1, e.flr h2, e.fz h3, h4.mono fun _ _ => e.lookV, e.fz h5⟩, h.ul, h.up, h.un, h.uk, h.few⟩
theorem SttA.ext {K : PySem.W.Frag} {n : Nat} {H H' : Hp} {s : Addr} {S : Stt} (h : SttA K n H s S) (e : Ex H H') : SttA K n H' s S := (Kp.of e).stt h
/-- the house at h: its past at p, what is ahead at q, each of at most m rows; its state S -/
structure HsX (K : PySem.W.Frag) (C : Addr) (n : Nat) (H : Hp) (h dx p q : Addr) (m : Nat) (S : Stt) : Prop where
  ex : ∃ (s : Addr) (ps qs : List V), H h = some (.ins C dx (fldsH s p q)) ∧ H p = some (.lst ps) ∧ ps.length ≤ m ∧ H q = some (.lst qs) ∧ qs.length ≤ m ∧ p ≠ q ∧ SttA K n H s S
theorem HsX.keep {K : PySem.W.Frag} {C : Addr} {n : Nat} {H H' : Hp} {h dx p q : Addr} {m m' : Nat} {S : Stt} (a : HsX K C n H h dx p q m S) (e : Kp H H') (eh : ∀ o, H h = some o → H' h = some o) (ep : ∀ o, H p = some o → H' p = some o) (eq : ∀ o, H q = some o → H' q = some o) (hm : m ≤ m') : HsX K C n H' h dx p q m' S := by
  obtain ⟨s, ps, qs, h1, h2, h3, h4, h5, h6, h7⟩ := a.ex
  exact ⟨s, ps, qs, eh _ h1, ep _ h2, by omega, eq _ h4, by omega, h6, e.stt h7⟩
theorem HsX.ext {K : PySem.W.Frag} {C : Addr} {n : Nat} {H H' : Hp} {h dx p q : Addr} {m : Nat} {S : Stt} (a : HsX K C n H h dx p q m S) (e : Ex H H') : HsX K C n H' h dx p q m S := a.keep (Kp.of e) (fun _ z => e _ _ z) (fun _ z => e _ _ z) (fun _ z => e _ _ z) (Nat.le_refl _)
theorem HsX.ins {K : PySem.W.Frag} {C : Addr} {n : Nat} {H : Hp} {h dx p q : Addr} {m : Nat} {S : Stt} (a : HsX K C n H h dx p q m S) : ∃ fs, H h = some (.ins C dx fs) ∧ ∀ x : Str, x ∉ (["state", "past", "ahead", "trying"] : List Str) → fs.lookup x = none := by
  obtain ⟨s, ps, qs, h1, _⟩ := a.ex
  refine ⟨_, h1, fun x hx => ?_⟩
  simp only [List.mem_cons, List.not_mem_nil, or_false, not_or] at hx
  unfold fldsH
  rw [List.lookup_cons, beq_eq_false_iff_ne.mpr hx.1, List.lookup_cons, beq_eq_false_iff_ne.mpr hx.2.1, List.lookup_cons, beq_eq_false_iff_ne.mpr hx.2.2.1, List.lookup_cons, beq_eq_false_iff_ne.mpr hx.2.2.2] <;> rfl
theorem HsX.lsts {K : PySem.W.Frag} {C : Addr} {n : Nat} {H : Hp} {h dx p q : Addr} {m : Nat} {S : Stt} (a : HsX K C n H h dx p q m S) : (∃ xs, H p = some (.lst xs)) ∧ ∃ xs, H q = some (.lst xs) := by
  obtain ⟨s, ps, qs, _, h2, _, h4, _⟩ := a.ex
  exact ⟨⟨_, h2⟩, _, h4⟩
theorem HsX.kp {K : PySem.W.Frag} {C : Addr} {n : Nat} {H H' : Hp} {h dx p q : Addr} {m : Nat} {S : Stt} (a : HsX K C n H h dx p q m S) (k : Kept H H' h p q) : Kp H H' := by
  obtain ⟨fs, h1, _⟩ := a.ins
  obtain ⟨⟨_, h2⟩, _, h3⟩ := a.lsts
  exact k.kp h1 h2 h3
def Stt.new : Stt := ⟨⟨[], [], []⟩, [], 1, 1, 1, 1⟩
theorem up_nil {α : Type} {c : Int} : Up ([] : List (Int × α)) c := ⟨List.Pairwise.nil, fun x hx => by cases hx⟩
theorem tab_nil {α : Type} {G : V → α → Prop} : TabA G [] [] := ⟨rfl, fun i k v x h _ => by cases h⟩
theorem HsX.made {K : PySem.W.Frag} {C : Addr} {n : Nat} {H : Hp} {h dx s p q : Addr} (hh : H h = some (.ins C dx [("state", .ref s), ("past", .ref p), ("ahead", .ref q), ("trying", .bl false)])) (hp : H p = some (.lst [])) (hq : H q = some (.lst [])) (hn : p ≠ q) (f : FirstA K H s) : HsX K C n H h dx p q 0 Stt.new := by
  obtain ⟨fl, lk, cm, q1, q2, q3, h1, h2, h3, h4, h5, h6, h7⟩ := f.ex
  exact ⟨s, [], [], hh, hp, Nat.le_refl _, hq, Nat.le_refl _, hn, ⟨fl, lk, cm, [], st_of h1, ⟨q1, q2, q3, [], [], [], h2, h5, h6, h7, tab_nil, tab_nil, tab_nil⟩, h3, tab_nil, h4⟩, up_nil, up_nil, up_nil, up_nil, ⟨Nat.zero_le _, Nat.zero_le _, Nat.zero_le _, Nat.zero_le _⟩⟩
def Stt.put (S : Stt) : Deed → Stt
  | .lamp c => { S with fl := { S.fl with lamps := S.fl.lamps ++ [(S.cl, ([c], true))] }, cl := S.cl + 1 }
  | .post B => { S with fl := { S.fl with posts := S.fl.posts ++ [(S.cp, B)] }, cp := S.cp + 1 }
  | .pane a b z => { S with fl := { S.fl with panes := S.fl.panes ++ [(S.cn, (a, b, z))] }, cn := S.cn + 1 }
def Deed.num (S : Stt) : Deed → Int
  | .lamp _ => S.cl
  | .post _ => S.cp
  | .pane _ _ _ => S.cn
/-- what a deed leaves of a house -/
def After (K : PySem.W.Frag) (C : Addr) (n : Nat) (H : Hp) (h dx p q : Addr) (m : Nat) (S' : Stt) (told : V) (Q : VK) : Prop := ∀ H', Kept H H' h p q → HsX K C n H' h dx p q (m + 1) S' → Q told H'
/-- from what the doer leaves to what the house is then -/
theorem after_fin {K : PySem.W.Frag} {C : Addr} {n : Nat} {H H4 : Hp} {h d dx s p q s' : Addr} {m : Nat} {S' : Stt} {told : V} {ps qs : List V} {Q : VK} (h1 : H h = some (.ins C dx (fldsH s p q))) (h2 : H p = some (.lst ps)) (h3 : ps.length ≤ m) (h4 : H q = some (.lst qs)) (h6 : p ≠ q) (e04 : Ex H H4) (hS : SttA K n H4 s' S') (k : After K C n H h dx p q m S' told Q) :
    ∀ t, H4 t = none → Q told (upd (upd (upd (upd H4 t (.tup [.ref d, .ref s])) p (.lst (ps ++ [.ref t]))) q (.lst [])) h (.ins C dx (putF "state" (.ref s') (fldsH s p q)))) := fun t ht => by
  have nph : p ≠ h := fun z => by
    rw [z, h1] at h2
    cases h2
  have nqh : q ≠ h := fun z => by
    rw [z, h1] at h4
    cases h4
  have kp := deed_kp (h := h) (p := p) (q := q) (o1 := .tup [V.ref d, .ref s]) (o2 := .lst (ps ++ [.ref t])) (o3 := .lst []) (o4 := .ins C dx (putF "state" (.ref s') (fldsH s p q))) (e04 _ _ h1) (e04 _ _ h2) (e04 _ _ h4) ht
  refine k _ (deed_kept e04 ht) ⟨s', ps ++ [.ref t], [], upd_same, ?_, ?_, ?_, Nat.zero_le _, h6, kp.stt hS⟩
  · rw [upd_ne nph, upd_ne h6, upd_same]
  · rw [List.length_append]
    exact Nat.succ_le_succ h3
  · rw [upd_ne nqh, upd_same]
end Hs
namespace Hs
open PySem PySem.Spec PyProof.Rows L2 Evl
/-! ### a lamp switched, a thing dropped -/
def setN {α : Type} (xs : List (Int × α)) (k : Int) (y : α) : List (Int × α) := xs.map fun x => if x.1 = k then (x.1, y) else x
def dropN {α : Type} (xs : List (Int × α)) (k : Int) : List (Int × α) := xs.filter fun x => decide (x.1 ≠ k)
theorem setN_keys {α : Type} {xs : List (Int × α)} {k : Int} {y : α} : (setN xs k y).map (·.1) = xs.map (·.1) := by
  unfold setN
  rw [List.map_map]
  refine List.map_congr_left fun x _ => ?_
  show (if x.1 = k then (x.1, y) else x).1 = x.1
  split <;> rfl
theorem Up.set {α : Type} {xs : List (Int × α)} {k c : Int} {y : α} (h : Up xs c) : Up (setN xs k y) c := by
  refine ⟨by rw [setN_keys]; exact h.1, fun x hx => ?_⟩
  have hm : x.1 ∈ (setN xs k y).map (·.1) := List.mem_map.mpr ⟨x, hx, rfl⟩
  rw [setN_keys] at hm
  obtain ⟨z, hz, e⟩ := List.mem_map.mp hm
  have := h.2 z hz
  have e2 : z.1 = x.1 := e
  omega
theorem Up.drop {α : Type} {xs : List (Int × α)} {k c : Int} (h : Up xs c) : Up (dropN xs k) c := ⟨(h.1.sublist (List.filter_sublist.map _)), fun x hx => h.2 x ((List.mem_filter.mp hx).1)⟩
inductive All2 {α β : Type} (G : α → β → Prop) : List α → List β → Prop where
  | nil : All2 G [] []
  | cons {a : α} {b : β} {as : List α} {bs : List β} : G a b → All2 G as bs → All2 G (a :: as) (b :: bs)
theorem TabA.all {α : Type} {G : V → α → Prop} : ∀ {ts : List (Key × V)} {xs : List (Int × α)}, TabA G ts xs → All2 (fun t x => t.1 = Sum.inl x.1 ∧ G t.2 x.2) ts xs
  | [], [], _ => .nil
  | [], _ :: _, h => nomatch h.1
  | _ :: _, [], h => nomatch h.1
  | t :: ts, x :: xs, h => .cons (h.2 0 t.1 t.2 x rfl rfl) (TabA.all ⟨Nat.succ.inj h.1, fun i k v y h1 h2 => h.2 (i + 1) k v y h1 h2⟩)
theorem TabA.of {α : Type} {G : V → α → Prop} {ts : List (Key × V)} {xs : List (Int × α)} (h : All2 (fun t x => t.1 = Sum.inl x.1 ∧ G t.2 x.2) ts xs) : TabA G ts xs := by
  induction h with
  | nil => exact tab_nil
  | cons a _ ih =>
    refine ⟨by rw [List.length_cons, List.length_cons, ih.1], fun i k v x h1 h2 => ?_⟩
    cases i with
    | zero =>
      cases h1
      cases h2
      exact a
    | succ i => exact ih.2 i k v x h1 h2
theorem TabA.set {α : Type} {G : V → α → Prop} {ts : List (Key × V)} {xs : List (Int × α)} (h : TabA G ts xs) {k : Int} {x0 : α} (hm : (k, x0) ∈ xs) {v : V} {y : α} (g : G v y) : TabA G (putK ts (.inl k) v) (setN xs k y) := by
  have ha : (ts.any fun kv => decide (kv.1 = (Sum.inl k : Key))) = true := by
    rw [List.any_eq_true]
    have hk : (Sum.inl k : Key) ∈ ts.map (·.1) := by
      rw [h.keys]
      exact List.mem_map.mpr ⟨k, List.mem_map.mpr ⟨_, hm, rfl⟩, rfl⟩
    obtain ⟨t, ht, e⟩ := List.mem_map.mp hk
    exact ⟨t, ht, decide_eq_true e⟩
  unfold putK
  rw [if_pos ha]
  unfold setN
  refine TabA.of ?_
  have hf := h.all
  clear h hm ha
  induction hf with
  | nil => exact .nil
  | @cons t x tr xr a _ ih =>
    refine .cons ?_ ih
    by_cases e : x.1 = k
    · have e2 : t.1 = (Sum.inl k : Key) := by rw [a.1, e]
      show (if t.1 = Sum.inl k then (t.1, v) else t).1 = Sum.inl (if x.1 = k then (x.1, y) else x).1 ∧ G (if t.1 = Sum.inl k then (t.1, v) else t).2 (if x.1 = k then (x.1, y) else x).2
      rw [if_pos e2, if_pos e]
      exact ⟨a.1, g⟩
    · have e2 : ¬ t.1 = (Sum.inl k : Key) := by
        rw [a.1]
        exact fun z => e (Sum.inl.inj z)
      show (if t.1 = Sum.inl k then (t.1, v) else t).1 = Sum.inl (if x.1 = k then (x.1, y) else x).1 ∧ G (if t.1 = Sum.inl k then (t.1, v) else t).2 (if x.1 = k then (x.1, y) else x).2
      rw [if_neg e2, if_neg e]
      exact a
theorem TabA.drop {α : Type} {G : V → α → Prop} {ts : List (Key × V)} {xs : List (Int × α)} (h : TabA G ts xs) {k : Int} : TabA G (dropK ts (.inl k)) (dropN xs k) := by
  unfold dropK dropN
  refine TabA.of ?_
  have hf := h.all
  clear h
  induction hf with
  | nil => exact .nil
  | @cons t x tr xr a _ ih =>
    by_cases e : x.1 = k
    · have e2 : ¬ t.1 ≠ (Sum.inl k : Key) := by
        rw [a.1, e]
        exact fun z => z rfl
      rw [List.filter_cons_of_neg (by simpa using e2), List.filter_cons_of_neg (by simpa using e)]
      exact ih
    · have e2 : t.1 ≠ (Sum.inl k : Key) := by
        rw [a.1]
        exact fun z => e (Sum.inl.inj z)
      rw [List.filter_cons_of_pos (by simpa using e2), List.filter_cons_of_pos (by simpa using e)]
      exact .cons a ih
/-- a thing that stands: its entry -/
theorem TabA.here {α : Type} {G : V → α → Prop} {ts : List (Key × V)} {xs : List (Int × α)} {c : Int} (h : TabA G ts xs) (u : Up xs c) {k : Int} {x : α} (hm : (k, x) ∈ xs) : ∃ v, valV ts (.inl k) = some v ∧ G v x := by
  obtain ⟨i, hi, e⟩ := List.mem_iff_getElem.mp hm
  exact h.get u.1 (i := i) (x := (k, x)) (by rw [List.getElem?_eq_getElem hi, e])
def Flr.keys (F : Flr) (so : Str) : List Int := if so = "lamp" then F.lamps.map (·.1) else if so = "post" then F.posts.map (·.1) else F.panes.map (·.1)
def Flr.drop (F : Flr) (so : Str) (k : Int) : Flr := if so = "lamp" then { F with lamps := dropN F.lamps k } else if so = "post" then { F with posts := dropN F.posts k } else { F with panes := dropN F.panes k }
def Stt.drop (S : Stt) (so : Str) (k : Int) : Stt := { S with fl := S.fl.drop so k }
end Hs
namespace Hs
open PySem PySem.Spec PyProof.Rows L2 Evl
/-! ### houses: switched, dropped, twins, their light -/
theorem After.new {K : PySem.W.Frag} {C : Addr} {n : Nat} {H : Hp} {h dx p q d : Addr} {m : Nat} {S : Stt} {told : V} {Q : VK} {o : HO} (k : After K C n H h dx p q m S told Q) (hd : H d = none) : After K C n (upd H d o) h dx p q m S told Q := fun H' kt a => k H' (fun x o' hx n1 n2 n3 => kt x o' ((Ex.new hd) _ _ hx) n1 n2 n3) a
end Hs
namespace Hs
open PySem PySem.Spec PyProof.Rows L2 Evl
/-! ### the law's model and the state of the house -/
def shiftC (e n : Int) (c : Chc) : Chc := (c.1 + e, c.2.1 + n, c.2.2)
def lmF (l : LM) : LT := (l.1.map (shiftC l.2.1 l.2.2.1), l.2.2.2)
def toF (M : Md) : Flr := ⟨M.lamps.map fun x => (x.1, lmF x.2), M.posts, M.panes⟩
def stOf (M : Md) : Stt := ⟨toF M, [], M.cl, M.cp, M.cn, M.ck⟩
theorem shift0 (c : Chc) : shiftC 0 0 c = c := by
  unfold shiftC
  rw [Int.add_zero, Int.add_zero]
theorem stOf_put {M : Md} {D : Deed} : (stOf M).put D = stOf (M.put D) := by
  cases D with
  | lamp c =>
    show (⟨⟨(M.lamps.map fun x => (x.1, lmF x.2)) ++ [(M.cl, ([c], true))], _, _⟩, _, _, _, _, _⟩ : Stt) = ⟨⟨(M.lamps ++ [(M.cl, ([c], 0, 0, true))]).map (fun x : Int × LM => (x.1, lmF x.2)), _, _⟩, _, _, _, _, _⟩
    rw [List.map_append]
    show _ = (⟨⟨_ ++ [(M.cl, ([shiftC 0 0 c], true))], _, _⟩, _, _, _, _, _⟩ : Stt)
    rw [shift0]
    rfl
  | post B => rfl
  | pane a b z => rfl
theorem CopyM.ext {H H' : Hp} {a : Addr} {D : Str → Addr} {T : Tabs5} (h : CopyM H a D T) (e : Ex H H') : CopyM H' a D T := ⟨e _ _ h.row, fun w hw => e _ _ (h.tab w hw), h.na, h.ne⟩
end Hs
namespace Hs
open PySem PySem.Spec PyProof.Rows L2 Evl
theorem pe_nev {X : Cx} {e : Expr} : PE X e (fun _ _ _ => False) := ⟨fun _ _ _ _ _ _ h => h.elim⟩
section
variable {K : PySem.W.Frag} {σ : L2.St} {H : Hp} {te : TE}
/-- a comprehension over a new tuple -/
theorem el_lcNT {xs : List V} {tl : TE} {j : Nat} {vs : List Nat} (v : Nat → V) (h : EvU tl σ H xs) (hz : xs.length ≤ 40000) (hw : ∀ x, wipe ((wipe σ vs).set j (some x)) vs = wipe σ vs)
    (he : ∀ (i : Nat) (x : V) H1, Ex H H1 → xs[i]? = some x → Ev te ((wipe σ vs).set j (some x)) H1 (v i)) :
    EvL (tLc (iTup K tl) (gName j) tYes te vs) σ H (given xs.length (fun _ => true) v) := fun H0 e Q q => h H0 e _ fun a H1 ha e1 hx => ⟨a, rfl, ⟨xs, st_of hx⟩, fun Dl hD =>
  lc_tup (xs := xs) (Cw H1 (fun _ => true) v Dl) ⟨hD, Ex.new hD, upd_same⟩ (fun i H' _ p => st_of (p.2.1 a _ hx)) (fun i x H' hi p => ⟨hw x, cw_turn p (by have := (List.getElem?_eq_some_iff.mp hi).1; omega) (fun H1 _ Q q => q H1 (Ex.refl H1)) (fun _ => he i x H1 (e.trans e1) hi)⟩)
    (fun H' p => q Dl H' (fresh_back e1 p.1) (e1.trans p.2.1) p.2.2)⟩
end
end Hs
namespace Hs
open PySem PySem.Spec PyProof.Rows L2 Evl
/-- o.m(), of an own method -/
theorem pe_metX0 {X : Cx} {k j : Nat} {C : Addr} {m : Str} {ps : List Str} {dvs : List V} {sp : Sp} {E : XK} {pos apos : Pos} {o : Expr} {ta : TE} {pl : Sem Bool} (M : MetX X.prog X.w X.K X.mg X.base k C m ps dvs sp) (hr : Room j X.A) (hk : k ≤ j) (hx : Passes (L2.CX X.prog X.w) X E) (he : PE X o ta)
    (ht : eval (.Call (.Attribute o m apos) [] [] pos) X.env = (do
      let ov ← eval o X.env
      standAt apos.atName
      let (f, first) ← holding [ov] (getMethod ov m pl)
      callWith pos f first (backTo pos (starEach [] X.env)) (backToKw pos (keywordEach [] X.env))) := by rfl) :
    PE X (.Call (.Attribute o m apos) [] [] pos) (tMeth C m sp dvs E ta tNil) := by
  obtain ⟨f, fd, ds, F, hm, hd, hb⟩ := M.ex
  exact pe_meth0 he M.c hm F (hr.mono hk) hb hd hx ht
/-- a def that raises nothing, among those that may -/
theorem fn_cx {P : Program} {w : World} {K : PySem.W.Frag} {mg : Str → Option Value} {base : Heap} {CX : CXT} {k : Nat} {f : Addr} {fd : FuncData} {ps : List Str} {sp : Sp} (F : FnOk P w K mg base CX0 k f fd ps sp) : FnOk P w K mg base CX k f fd ps sp :=
  ⟨F.len, fun A outer s H args us vs Q E hr he hb hv hs => codeAny_mono (F.run A outer s H args us vs Q E hr he hb hv hs) fun r s' g => by
    cases r with
    | ok v => cases v <;> exact g
    | error e => exact (show False from g).elim⟩
abbrev rTupK (K : PySem.W.Frag) : List V → Hp → VK → Prop := fun xs H Q => ∃ p ys, xs = [V.ref p] ∧ ((SqL K H p ys ∧ ∀ l : Addr, H l = none → Q (V.ref l) (upd H l (.tup ys))) ∨ (SqT K H p ys ∧ Q (V.ref p) H))
end Hs
namespace Hs
open PySem PySem.Spec PyProof.Rows L2 Evl
theorem q_asgV {te : TE} {i : Nat} {tz : TS} {D : Ends} {σ : L2.St} {H : Hp} (h : te σ H fun v H1 => tz D (σ.set i (some v)) H1) : tSeq (tAsg te (gName i)) tz D σ H := h
end Hs
namespace Hs
open PySem PySem.Spec PyProof.Rows L2 Evl
theorem un64 {k : Nat} {A : Around} (r : Room k A) : A.units + 64 < cLine := by
  have := r.un
  omega
section
variable {σ : L2.St} {H : Hp} {K : PySem.W.Frag}
theorem eu_sl {te : TE} {tl th : TO} {a : Addr} {xs : List V} {lo hi : Option Int} (h : Ev te σ H (.ref a)) (h1 : EvO tl σ H lo) (h2 : EvO th σ H hi) (hs : SqT K H a xs) (hw : ¬ (HT.sIx xs.length 0 lo = 0 ∧ HT.sIx xs.length xs.length hi = xs.length)) : EvU (tSl (rSlT K) te tl th) σ H (cutV xs lo hi) := fun H1 e _ q =>
  h H1 e _ fun H2 e2 => h1 H2 (e.trans e2) _ fun H3 e3 => h2 H3 ((e.trans e2).trans e3) _ fun H4 e4 =>
    ⟨a, xs, rfl, ex_t (((e.trans e2).trans e3).trans e4) hs, hw, fun p hp => q p _ (fresh_back ((e2.trans e3).trans e4) hp) (((e2.trans e3).trans e4).trans (Ex.new hp)) upd_same⟩
end
end Hs
namespace Hs
open PySem PySem.Spec PyProof.Rows L2 Evl
/-! ### values that are tuples all through, read as data -/
mutual
inductive Dt (K : PySem.W.Frag) (H : Hp) : V → PyData → Prop
  | bl (b : Bool) : Dt K H (.bl b) (.bool b)
  | int (i : Int) : Dt K H (.int i) (.int i)
  | str (x : Str) : Dt K H (.str x) (.str x)
  | tup {a : Addr} {xs : List V} {ds : List PyData} : SqT K H a xs → DtAll K H xs ds → Dt K H (.ref a) (.tuple ds)
inductive DtAll (K : PySem.W.Frag) (H : Hp) : List V → List PyData → Prop
  | nil : DtAll K H [] []
  | cons {v : V} {vs : List V} {d : PyData} {ds : List PyData} : Dt K H v d → DtAll K H vs ds → DtAll K H (v :: vs) (d :: ds)
end
section
variable {K : PySem.W.Frag} {H H' : Hp}
mutual
theorem Dt.dp : ∀ (d : PyData) (v : V), Dt K H v d → Dp K H v d
  | .none, _, h => by cases h
  | .bool _, _, h => by
    cases h
    exact .bl _
  | .int _, _, h => by
    cases h
    exact .int _
  | .str _, _, h => by
    cases h
    exact .str _
  | .list _, _, h => by cases h
  | .tuple ds, _, h => by
    cases h with
    | tup hs ha => exact .tup hs (DtAll.dp ds _ ha)
  | .dict _, _, h => by cases h
theorem DtAll.dp : ∀ (ds : List PyData) (vs : List V), DtAll K H vs ds → DpAll K H vs ds
  | [], _, h => by
    cases h
    exact .nil
  | d :: ds, _, h => by
    cases h with
    | cons h1 h2 => exact .cons (Dt.dp d _ h1) (DtAll.dp ds _ h2)
end
mutual
theorem Dt.kp (e : Kp H H') : ∀ (d : PyData) (v : V), Dt K H v d → Dt K H' v d
  | .none, _, h => by cases h
  | .bool _, _, h => by
    cases h
    exact .bl _
  | .int _, _, h => by
    cases h
    exact .int _
  | .str _, _, h => by
    cases h
    exact .str _
  | .list _, _, h => by cases h
  | .tuple ds, _, h => by
    cases h with
    | tup hs ha => exact .tup (e.sqt hs) (DtAll.kp e ds _ ha)
  | .dict _, _, h => by cases h
theorem DtAll.kp (e : Kp H H') : ∀ (ds : List PyData) (vs : List V), DtAll K H vs ds → DtAll K H' vs ds
  | [], _, h => by
    cases h
    exact .nil
  | d :: ds, _, h => by
    cases h with
    | cons h1 h2 => exact .cons (Dt.kp e d _ h1) (DtAll.kp e ds _ h2)
end
theorem DtAll.snoc : ∀ {vs : List V} {ds : List PyData} {v : V} {d : PyData}, DtAll K H vs ds → Dt K H v d → DtAll K H (vs ++ [v]) (ds ++ [d])
  | _, _, _, _, .nil, h => .cons h .nil
  | _, _, _, _, .cons h1 h2, h => .cons h1 (DtAll.snoc h2 h)
theorem DtAll.len : ∀ {vs : List V} {ds : List PyData}, DtAll K H vs ds → vs.length = ds.length
  | _, _, .nil => rfl
  | _, _, .cons _ h2 => congrArg (· + 1) (DtAll.len h2)
theorem DtAll.of : ∀ {vs : List V} {ds : List PyData}, vs.length = ds.length → (∀ (i : Nat) (v : V) (d : PyData), vs[i]? = some v → ds[i]? = some d → Dt K H v d) → DtAll K H vs ds
  | [], [], _, _ => .nil
  | [], _ :: _, h, _ => nomatch h
  | _ :: _, [], h, _ => nomatch h
  | v :: vs, d :: ds, h, f => .cons (f 0 v d rfl rfl) (DtAll.of (Nat.succ.inj h) fun i v' d' h1 h2 => f (i + 1) v' d' h1 h2)
theorem dpAll_len : ∀ {vs : List V} {ds : List PyData}, DpAll K H vs ds → vs.length = ds.length
  | _, _, .nil => rfl
  | _, _, .cons _ h2 => congrArg (· + 1) (dpAll_len h2)
theorem dpAll_at : ∀ {vs : List V} {ds : List PyData} {i : Nat} {v : V}, DpAll K H vs ds → vs[i]? = some v → ∃ d, ds[i]? = some d ∧ Dp K H v d
  | _, _, _, _, .nil, h => by cases h
  | _, _, 0, _, .cons h1 _, h => by
    cases h
    exact ⟨_, rfl, h1⟩
  | _, _, i + 1, _, .cons _ h2, h => dpAll_at (i := i) h2 h
/-- not too deep, not too long -/
def dOk : Nat → PyData → Prop
  | 0, _ => False
  | n + 1, .list ds => ds.length ≤ 1000 ∧ ∀ d ∈ ds, dOk n d
  | n + 1, .tuple ds => ds.length ≤ 1000 ∧ ∀ d ∈ ds, dOk n d
  | _ + 1, .dict _ => False
  | _ + 1, _ => True
theorem sm_dp : ∀ {n : Nat} {d : PyData} {u v : V}, dOk n d → Dp K H u d → Dp K H v d → Sm K H n u v
  | 0, _, _, _, h, _, _ => h.elim
  | n + 1, d, u, v, h, hu, hv => by
    cases hu with
    | non =>
      cases hv
      exact .inl ⟨rfl, rfl⟩
    | bl b =>
      cases hv
      exact .inl ⟨rfl, rfl⟩
    | int i =>
      cases hv
      exact .inl ⟨rfl, rfl⟩
    | str x =>
      cases hv
      exact .inl ⟨rfl, rfl⟩
    | @lst a xs ds hs ha =>
      cases hv with
      | lst hs' ha' =>
        obtain ⟨h1, h2⟩ := h
        have l1 := dpAll_len ha
        have l2 := dpAll_len ha'
        refine .inr ⟨_, _, _, _, rfl, rfl, .inl ⟨hs, hs'⟩, l1.trans l2.symm, by omega, fun i x y hx hy => ?_⟩
        obtain ⟨d1, e1, p1⟩ := dpAll_at ha hx
        obtain ⟨d2, e2, p2⟩ := dpAll_at ha' hy
        cases e1.symm.trans e2
        exact sm_dp (h2 _ (List.mem_of_getElem? e1)) p1 p2
    | @tup a xs ds hs ha =>
      cases hv with
      | tup hs' ha' =>
        obtain ⟨h1, h2⟩ := h
        have l1 := dpAll_len ha
        have l2 := dpAll_len ha'
        refine .inr ⟨_, _, _, _, rfl, rfl, .inr ⟨hs, hs'⟩, l1.trans l2.symm, by omega, fun i x y hx hy => ?_⟩
        obtain ⟨d1, e1, p1⟩ := dpAll_at ha hx
        obtain ⟨d2, e2, p2⟩ := dpAll_at ha' hy
        cases e1.symm.trans e2
        exact sm_dp (h2 _ (List.mem_of_getElem? e1)) p1 p2
/-- a list of rows -/
def RowsD (K : PySem.W.Frag) (H : Hp) (D : Addr) (ds : List PyData) : Prop := ∃ xs, H D = some (.lst xs) ∧ DtAll K H xs ds
theorem RowsD.ext {D : Addr} {ds : List PyData} (h : RowsD K H D ds) (e : Ex H H') : RowsD K H' D ds := let ⟨xs, h1, h2⟩ := h; ⟨xs, e _ _ h1, DtAll.kp (Kp.of e) _ _ h2⟩
theorem RowsD.dp {D : Addr} {ds : List PyData} (h : RowsD K H D ds) : Dp K H (.ref D) (.list ds) := let ⟨_, h1, h2⟩ := h; .lst (sq_of h1) (DtAll.dp _ _ h2)
theorem RowsD.snoc {D : Addr} {ds : List PyData} {xs : List V} {v : V} {d : PyData} (hD : H D = some (.lst xs)) (h : DtAll K H xs ds) (hv : Dt K H v d) : RowsD K (upd H D (.lst (xs ++ [v]))) D (ds ++ [d]) :=
  ⟨_, upd_same, (DtAll.kp (Kp.upd hD) _ _ h).snoc (Dt.kp (Kp.upd hD) _ _ hv)⟩
/-! ### choices, lamps, posts, panes as data -/
def triD (x : Tri) : PyData := .tuple [.int x.1, .int x.2.1, .int x.2.2]
def ptD (x : Pt) : PyData := .tuple [.int x.1, .int x.2]
def chcD (c : Chc) : PyData := .tuple [.int c.1, .int c.2.1, .int c.2.2.1, .int c.2.2.2.1, .int c.2.2.2.2]
def lampD (x : Int × LT) : PyData := .tuple [.int x.1, .tuple (x.2.1.map chcD), .bool x.2.2]
def blkD (B : Blk) : PyData := .tuple [.int B.left, .int B.low, .int B.right, .int B.high]
def postD (x : Int × Blk) : PyData := .tuple [.int x.1, blkD x.2]
def paneD (x : Int × Pan) : PyData := .tuple [.int x.1, .tuple [ptD x.2.1, ptD x.2.2.1], .str x.2.2.2]
def lookD (x : Int × (Pt × Tri × Flr)) : PyData := .tuple [.int x.1, ptD x.2.1, triD x.2.2.1]
theorem dt_pt {p : Addr} {x : Pt} (h : SqT K H p (prV x)) : Dt K H (.ref p) (ptD x) := .tup h (.cons (.int _) (.cons (.int _) .nil))
theorem dt_tri {p : Addr} {x : Tri} (h : SqT K H p (tri x)) : Dt K H (.ref p) (triD x) := .tup h (.cons (.int _) (.cons (.int _) (.cons (.int _) .nil)))
theorem dt_chc {p : Addr} {c : Chc} (h : SqT K H p (chv c)) : Dt K H (.ref p) (chcD c) := .tup h (.cons (.int _) (.cons (.int _) (.cons (.int _) (.cons (.int _) (.cons (.int _) .nil)))))
theorem dt_chcs {a : Addr} {ps : List Addr} {cs : List Chc} (h : SqT K H a (ps.map V.ref)) (hl : ps.length = cs.length) (hp : ∀ (i : Nat) (p : Addr) (c : Chc), ps[i]? = some p → cs[i]? = some c → SqT K H p (chv c)) : Dt K H (.ref a) (.tuple (cs.map chcD)) := by
  refine .tup h (DtAll.of (by rw [List.length_map, List.length_map, hl]) fun i v d h1 h2 => ?_)
  rw [List.getElem?_map] at h1 h2
  obtain ⟨p, h3, rfl⟩ := Option.map_eq_some_iff.mp h1
  obtain ⟨c, h4, rfl⟩ := Option.map_eq_some_iff.mp h2
  exact dt_chc (hp i p c h3 h4)
theorem dt_blk {n : Nat} {p : Addr} {B : Blk} (h : Bl K n H p B) : Dt K H (.ref p) (blkD B) := .tup h.1 (.cons (.int _) (.cons (.int _) (.cons (.int _) (.cons (.int _) .nil))))
theorem dt_pc {n : Nat} {p : Addr} {a b : Pt} (h : Pc K n H p a b) : Dt K H (.ref p) (.tuple [ptD a, ptD b]) := by
  obtain ⟨c, d, h1, h2, h3⟩ := h
  exact .tup h1 (.cons (dt_pt h2.1) (.cons (dt_pt h3.1) .nil))
/-! ### comprehensions that make rows -/
theorem dt_turn {H1 H2 : Hp} {Dl : Addr} {ds : List PyData} {d : PyData} {v : V} {i : Nat} (hDl : H1 Dl = none) (q : Ex H1 H ∧ RowsD K H Dl (ds.take i)) (hd : ds[i]? = some d) (hl : ds.length ≤ 1000) (e : Ex H H2) (hv : Dt K H2 v d) :
    ∃ acc, H2 Dl = some (.lst acc) ∧ acc.length < sizeLine ∧ Ex H1 (upd H2 Dl (.lst (acc ++ [v]))) ∧ RowsD K (upd H2 Dl (.lst (acc ++ [v]))) Dl (ds.take (i + 1)) := by
  obtain ⟨e0, acc, h1, h2⟩ := q
  have hD2 := e _ _ h1
  have hlen := h2.len
  rw [List.length_take] at hlen
  refine ⟨acc, hD2, sz_lt (by omega), Ex.mut (e0.trans e) hDl, ?_⟩
  rw [List.take_add_one, hd]
  exact RowsD.snoc hD2 (DtAll.kp (Kp.of e) _ _ h2) hv
variable {σ : L2.St} {te tl : TE} {j : Nat} {vs : List Nat} {Q : VK} {a : Addr} {xs : List V} {ds : List PyData}
theorem lc_dtT (h : Ev tl σ H (.ref a)) (hx : SqT K H a xs) (hxd : xs.length = ds.length) (hl : ds.length ≤ 1000) (hw : ∀ x, wipe ((wipe σ vs).set j (some x)) vs = wipe σ vs)
    (hs : ∀ (i : Nat) (x : V) (d : PyData), xs[i]? = some x → ds[i]? = some d → ∀ H' Q', Ex H H' → (∀ v H2, Ex H' H2 → Dt K H2 v d → Q' v H2) → te ((wipe σ vs).set j (some x)) H' Q')
    (k : ∀ D H', H D = none → Ex H H' → RowsD K H' D ds → Q (.ref D) H') : tLc (iTup K tl) (gName j) tYes te vs σ H Q := by
  refine h H (Ex.refl _) _ fun H1 e1 => ⟨a, rfl, ⟨_, ex_t e1 hx⟩, fun Dl hDl => ?_⟩
  refine lc_it (walk_tup (K := K) (a := a) (xs := xs)) (fun i H' => Ex H1 H' ∧ RowsD K H' Dl (ds.take i)) ⟨Ex.new hDl, [], upd_same, .nil⟩ (fun i H' _ q => ex_t (e1.trans q.1) hx) (fun i x H' H'' hi q y => ?_) (fun H' q => ?_)
  · obtain ⟨rfl, hx⟩ := y
    obtain ⟨d, hd⟩ : ∃ d, ds[i]? = some d := ⟨_, List.getElem?_eq_getElem (by rw [← hxd]; exact hi)⟩
    refine ⟨hw _, ?_⟩
    simp only [tYes, if_true]
    exact hs i x d hx hd _ _ (e1.trans q.1) fun v H2 e2 hv => dt_turn hDl q hd hl e2 hv
  · obtain ⟨e, q⟩ := q
    rw [hxd, List.take_length] at q
    exact k Dl H' (fresh_back e1 hDl) (e1.trans e) q
end
end Hs
namespace Hs
open PySem PySem.Spec PyProof.Rows L2 Evl
/-! ### what stands in a house, as rows -/
def spRowsH (K : PySem.W.Frag) (C : Addr) (n : Nat) (g : Stt → List PyData) : Sp := fun vs H Q _ => ∃ (h dx p q : Addr) (m : Nat) (S : Stt), vs = [.ref h] ∧ HsX K C n H h dx p q m S ∧ ∀ D H', H D = none → Ex H H' → RowsD K H' D (g S) → Q (.ref D) H'
section
variable {P : Program} {w : World} {K : PySem.W.Frag} {mg : Str → Option Value} {base : Heap} {f C : Addr} {fd : FuncData} {n : Nat}
abbrev sLampsM : Stmt := (inClass (Hs.top 103) 18)
theorem scLampsM : FnScope ["self", "number", "choices", "on"] ["self"] (defScope sLampsM) := ⟨rfl, rfl, rfl, by decide +kernel, rfl, by decide +kernel, by decide +kernel⟩
theorem ok_lampsM (F : FunD K "lamps" "House.lamps" (defArgs sLampsM) (defBody sLampsM) (defScope sLampsM) [] [] f fd) (hC : HouseC K C) : FnOk P w K mg base CX0 1 f fd ["self"] (spRowsH K C n fun S => S.fl.lamps.map lampD) := by
  have nd := scLampsM.nd
  refine F.ok scLampsM (fun vs H Q E h => ?_) (fun cdv A outer s H vs Q E hr h => ⟨_, PSs.nox (pss_one (ps_ret (pe_lc (own := [("number", 1), ("choices", 2), ("on", 3)]) (g := (gTup K 2 (gCons (gName 1) (gCons (gTup K 2 (gCons (gName 2) (gCons (gName 3) gNil))) gNil)))) rfl nd (pi_items (pe_dget (Hs.un1 hr) (pe_ix (r := rIxT K) ix_tup (pe_fld (pv 0) (by rfl)) pe_int (fun _ _ => rfl)) pe_str (fun _ _ => rfl))) (blkOk_by (N := ["self", "number", "choices", "on"]) (sc := defScope (inClass (Hs.top 103) 18)) (by decide +kernel)) (fun _ _ _ _ _ => (pg_tup rfl (pgs_cons (pg_name (i := 1) nd rfl (Or.inl rfl)) (pgs_cons (pg_tup rfl (pgs_cons (pg_name (i := 2) nd rfl (Or.inl rfl)) (pgs_cons (pg_name (i := 3) nd rfl (Or.inl rfl)) pgs_nil))) pgs_nil)))) (fun _ _ _ _ _ => pts_nil) (fun _ _ _ _ _ => (pe_tup (pa_cons (pv 1) (pa_cons (pv 2) (pa_cons (pv 3) pa_nil)))))))), ?_⟩)
  · obtain ⟨h, dx, p, q, m, S, rfl, _⟩ := h
    rfl
  · obtain ⟨h, dx, p, q, m, S, rfl, a, k⟩ := h
    obtain ⟨s0, ps, qs, h1, h2, h3, h4, h5, h6, hS⟩ := a.ex
    obtain ⟨fl, lk, cm, tl, g1, hFl, g3, g4, g5⟩ := hS.ex
    obtain ⟨b, q2, q3, t1, t2, t3, f1, f2, f3, f4, f5, f6, f7⟩ := hFl.ex
    obtain ⟨w1, w2, w3, w4⟩ := hS.few
    obtain ⟨od, hb1⟩ := id f2
    refine ⟨_, rfl, h, C, dx, _, _, rfl, h1, hC.c, hC.s, rfl, s0, _, 0, _, rfl, rfl, g1, rfl, ?_⟩
    refine ⟨fl, _, rfl, f1.get (k := .inr "lamp"), b, od, t1, rfl, hb1, fun Dl hDl => ?_⟩
    refine lc_it walk_items (fun i H' => Ex H H' ∧ RowsD K H' Dl ((S.fl.lamps.map lampD).take i)) ⟨Ex.new hDl, [], upd_same, .nil⟩ (fun i H' _ q => q.1 _ _ hb1) (fun i x H' H'' hi q y => ?_) (fun H' q => ?_)
    · obtain ⟨T, x1, x2, rfl, hT, rfl, y1, y2⟩ := y
      obtain ⟨⟨key, v⟩, hkv⟩ : ∃ z, t1[i]? = some z := ⟨_, List.getElem?_eq_getElem hi⟩
      obtain ⟨z, hz⟩ : ∃ z, S.fl.lamps[i]? = some z := ⟨_, List.getElem?_eq_getElem (by rw [← f5.1]; exact hi)⟩
      dsimp only at y1 y2
      rw [hkv] at y1 y2
      cases y1
      cases y2
      have eT := Ex.new (o := .tup [kV key, v]) hT
      have e := q.1.trans eT
      have hd : (S.fl.lamps.map lampD)[i]? = some (lampD z) := by rw [List.getElem?_map, hz] <;> rfl
      obtain ⟨ek, th, rfl, lg⟩ := f5.2 i key v z hkv hz
      subst ek
      obtain ⟨ch, ps', l1, l2, l3, l4⟩ := lg.ex
      refine ⟨T, _, rfl, st_of upd_same, rfl, _, _, rfl, _, _, rfl, ⟨th, _, rfl, st_of (e _ _ l1), rfl, _, _, rfl, _, _, rfl, rfl, rfl, rfl, ?_⟩⟩
      refine ⟨_, rfl, _, rfl, _, rfl, sz_of (by simp), fun r hr => ?_⟩
      have x2 := Ex.new (o := .tup [V.int z.1, .ref ch, .bl z.2.2]) hr
      exact dt_turn hDl q hd (by rw [List.length_map]; omega) (eT.trans x2) (.tup (st_of upd_same) (.cons (.int _) (.cons (dt_chcs (st_of ((e.trans x2) _ _ l2)) l3 fun i p c g1 g2 => st_of ((e.trans x2) _ _ (l4 i p c g1 g2))) (.cons (.bl _) .nil))))
    · obtain ⟨e, q⟩ := q
      have el : t1.length = (S.fl.lamps.map lampD).length := by rw [List.length_map, f5.1]
      rw [el, List.take_length] at q
      exact k Dl H' hDl e q
abbrev sPostsM : Stmt := (inClass (Hs.top 103) 19)
theorem scPostsM : FnScope ["self", "number", "block"] ["self"] (defScope sPostsM) := ⟨rfl, rfl, rfl, by decide +kernel, rfl, by decide +kernel, by decide +kernel⟩
theorem ok_postsM (F : FunD K "posts" "House.posts" (defArgs sPostsM) (defBody sPostsM) (defScope sPostsM) [] [] f fd) (hC : HouseC K C) : FnOk P w K mg base CX0 1 f fd ["self"] (spRowsH K C n fun S => S.fl.posts.map postD) := by
  have nd := scPostsM.nd
  refine F.ok scPostsM (fun vs H Q E h => ?_) (fun cdv A outer s H vs Q E hr h => ⟨_, PSs.nox (pss_one (ps_ret (pe_lc (own := [("number", 1), ("block", 2)]) (g := gTup K 2 (gCons (gName 1) (gCons (gName 2) gNil))) rfl nd (pi_items (pe_dget (Hs.un1 hr) (pe_ix (r := rIxT K) ix_tup (pe_fld (pv 0) (by rfl)) pe_int (fun _ _ => rfl)) pe_str (fun _ _ => rfl))) (blkOk_by (N := ["self", "number", "block"]) (sc := defScope (inClass (Hs.top 103) 19)) (by decide +kernel)) (fun _ _ _ _ _ => (pg_tup rfl (pgs_cons (pg_name (i := 1) nd rfl (Or.inl rfl)) (pgs_cons (pg_name (i := 2) nd rfl (Or.inl rfl)) pgs_nil)))) (fun _ _ _ _ _ => pts_nil) (fun _ _ _ _ _ => (pe_tup (pa_cons (pv 1) (pa_cons (pv 2) pa_nil))))))), ?_⟩)
  · obtain ⟨h, dx, p, q, m, S, rfl, _⟩ := h
    rfl
  · obtain ⟨h, dx, p, q, m, S, rfl, a, k⟩ := h
    obtain ⟨s0, ps, qs, h1, h2, h3, h4, h5, h6, hS⟩ := a.ex
    obtain ⟨fl, lk, cm, tl, g1, hFl, g3, g4, g5⟩ := hS.ex
    obtain ⟨b, q2, q3, t1, t2, t3, f1, f2, f3, f4, f5, f6, f7⟩ := hFl.ex
    obtain ⟨w1, w2, w3, w4⟩ := hS.few
    obtain ⟨od, hb1⟩ := id f3
    refine ⟨_, rfl, h, C, dx, _, _, rfl, h1, hC.c, hC.s, rfl, s0, _, 0, _, rfl, rfl, g1, rfl, ?_⟩
    refine ⟨fl, _, rfl, f1.get (k := .inr "post"), q2, od, t2, rfl, hb1, fun Dl hDl => ?_⟩
    refine lc_it walk_items (fun i H' => Ex H H' ∧ RowsD K H' Dl ((S.fl.posts.map postD).take i)) ⟨Ex.new hDl, [], upd_same, .nil⟩ (fun i H' _ q => q.1 _ _ hb1) (fun i x H' H'' hi q y => ?_) (fun H' q => ?_)
    · obtain ⟨T, x1, x2, rfl, hT, rfl, y1, y2⟩ := y
      obtain ⟨⟨key, v⟩, hkv⟩ : ∃ z, t2[i]? = some z := ⟨_, List.getElem?_eq_getElem hi⟩
      obtain ⟨z, hz⟩ : ∃ z, S.fl.posts[i]? = some z := ⟨_, List.getElem?_eq_getElem (by rw [← f6.1]; exact hi)⟩
      dsimp only at y1 y2
      rw [hkv] at y1 y2
      cases y1
      cases y2
      have eT := Ex.new (o := .tup [kV key, v]) hT
      have e := q.1.trans eT
      have hd : (S.fl.posts.map postD)[i]? = some (postD z) := by rw [List.getElem?_map, hz] <;> rfl
      obtain ⟨ek, pb, rfl, hB⟩ := f6.2 i key v z hkv hz
      subst ek
      refine ⟨T, _, rfl, st_of upd_same, rfl, _, _, rfl, _, _, rfl, rfl, rfl, ?_⟩
      refine ⟨_, rfl, _, rfl, sz_of (by simp), fun r hr => ?_⟩
      have x2 := Ex.new (o := .tup [V.int z.1, .ref pb]) hr
      exact dt_turn hDl q hd (by rw [List.length_map]; omega) (eT.trans x2) (.tup (st_of upd_same) (.cons (.int _) (.cons (dt_blk (hB.ext (e.trans x2))) .nil)))
    · obtain ⟨e, q⟩ := q
      have el : t2.length = (S.fl.posts.map postD).length := by rw [List.length_map, f6.1]
      rw [el, List.take_length] at q
      exact k Dl H' hDl e q
abbrev sPanesM : Stmt := (inClass (Hs.top 103) 20)
theorem scPanesM : FnScope ["self", "number", "piece", "sift"] ["self"] (defScope sPanesM) := ⟨rfl, rfl, rfl, by decide +kernel, rfl, by decide +kernel, by decide +kernel⟩
theorem ok_panesM (F : FunD K "panes" "House.panes" (defArgs sPanesM) (defBody sPanesM) (defScope sPanesM) [] [] f fd) (hC : HouseC K C) : FnOk P w K mg base CX0 1 f fd ["self"] (spRowsH K C n fun S => S.fl.panes.map paneD) := by
  have nd := scPanesM.nd
  refine F.ok scPanesM (fun vs H Q E h => ?_) (fun cdv A outer s H vs Q E hr h => ⟨_, PSs.nox (pss_one (ps_ret (pe_lc (own := [("number", 1), ("piece", 2), ("sift", 3)]) (g := (gTup K 2 (gCons (gName 1) (gCons (gTup K 2 (gCons (gName 2) (gCons (gName 3) gNil))) gNil)))) rfl nd (pi_items (pe_dget (Hs.un1 hr) (pe_ix (r := rIxT K) ix_tup (pe_fld (pv 0) (by rfl)) pe_int (fun _ _ => rfl)) pe_str (fun _ _ => rfl))) (blkOk_by (N := ["self", "number", "piece", "sift"]) (sc := defScope (inClass (Hs.top 103) 20)) (by decide +kernel)) (fun _ _ _ _ _ => (pg_tup rfl (pgs_cons (pg_name (i := 1) nd rfl (Or.inl rfl)) (pgs_cons (pg_tup rfl (pgs_cons (pg_name (i := 2) nd rfl (Or.inl rfl)) (pgs_cons (pg_name (i := 3) nd rfl (Or.inl rfl)) pgs_nil))) pgs_nil)))) (fun _ _ _ _ _ => pts_nil) (fun _ _ _ _ _ => (pe_tup (pa_cons (pv 1) (pa_cons (pv 2) (pa_cons (pv 3) pa_nil)))))))), ?_⟩)
  · obtain ⟨h, dx, p, q, m, S, rfl, _⟩ := h
    rfl
  · obtain ⟨h, dx, p, q, m, S, rfl, a, k⟩ := h
    obtain ⟨s0, ps, qs, h1, h2, h3, h4, h5, h6, hS⟩ := a.ex
    obtain ⟨fl, lk, cm, tl, g1, hFl, g3, g4, g5⟩ := hS.ex
    obtain ⟨b, q2, q3, t1, t2, t3, f1, f2, f3, f4, f5, f6, f7⟩ := hFl.ex
    obtain ⟨w1, w2, w3, w4⟩ := hS.few
    obtain ⟨od, hb1⟩ := id f4
    refine ⟨_, rfl, h, C, dx, _, _, rfl, h1, hC.c, hC.s, rfl, s0, _, 0, _, rfl, rfl, g1, rfl, ?_⟩
    refine ⟨fl, _, rfl, f1.get (k := .inr "pane"), q3, od, t3, rfl, hb1, fun Dl hDl => ?_⟩
    refine lc_it walk_items (fun i H' => Ex H H' ∧ RowsD K H' Dl ((S.fl.panes.map paneD).take i)) ⟨Ex.new hDl, [], upd_same, .nil⟩ (fun i H' _ q => q.1 _ _ hb1) (fun i x H' H'' hi q y => ?_) (fun H' q => ?_)
    · obtain ⟨T, x1, x2, rfl, hT, rfl, y1, y2⟩ := y
      obtain ⟨⟨key, v⟩, hkv⟩ : ∃ z, t3[i]? = some z := ⟨_, List.getElem?_eq_getElem hi⟩
      obtain ⟨z, hz⟩ : ∃ z, S.fl.panes[i]? = some z := ⟨_, List.getElem?_eq_getElem (by rw [← f7.1]; exact hi)⟩
      dsimp only at y1 y2
      rw [hkv] at y1 y2
      cases y1
      cases y2
      have eT := Ex.new (o := .tup [kV key, v]) hT
      have e := q.1.trans eT
      have hd : (S.fl.panes.map paneD)[i]? = some (paneD z) := by rw [List.getElem?_map, hz] <;> rfl
      obtain ⟨ek, pb, pc, rfl, hB, hP⟩ := f7.2 i key v z hkv hz
      subst ek
      refine ⟨T, _, rfl, st_of upd_same, rfl, _, _, rfl, _, _, rfl, ⟨pb, _, rfl, ex_t e hB, rfl, _, _, rfl, _, _, rfl, rfl, rfl, rfl, ?_⟩⟩
      refine ⟨_, rfl, _, rfl, _, rfl, sz_of (by simp), fun r hr => ?_⟩
      have x2 := Ex.new (o := .tup [V.int z.1, .ref pc, .str z.2.2.2]) hr
      exact dt_turn hDl q hd (by rw [List.length_map]; omega) (eT.trans x2) (.tup (st_of upd_same) (.cons (.int _) (.cons (dt_pc (hP.ext (e.trans x2))) (.cons (.str _) .nil))))
    · obtain ⟨e, q⟩ := q
      have el : t3.length = (S.fl.panes.map paneD).length := by rw [List.length_map, f7.1]
      rw [el, List.take_length] at q
      exact k Dl H' hDl e q
abbrev sLooksM : Stmt := (inClass (Hs.top 103) 21)
theorem scLooksM : FnScope ["self", "number", "place", "light", "floor"] ["self"] (defScope sLooksM) := ⟨rfl, rfl, rfl, by decide +kernel, rfl, by decide +kernel, by decide +kernel⟩
theorem ok_looksM (F : FunD K "looks" "House.looks" (defArgs sLooksM) (defBody sLooksM) (defScope sLooksM) [] [] f fd) (hC : HouseC K C) : FnOk P w K mg base CX0 1 f fd ["self"] (spRowsH K C n fun S => S.looks.map lookD) := by
  have nd := scLooksM.nd
  refine F.ok scLooksM (fun vs H Q E h => ?_) (fun cdv A outer s H vs Q E hr h => ⟨_, PSs.nox (pss_one (ps_ret (pe_lc (own := [("number", 1), ("place", 2), ("light", 3), ("floor", 4)]) (g := (gTup K 2 (gCons (gName 1) (gCons (gTup K 3 (gCons (gName 2) (gCons (gName 3) (gCons (gName 4) gNil)))) gNil)))) rfl nd (pi_items (pe_ix (r := rIxT K) ix_tup (pe_fld (pv 0) (by rfl)) pe_int (fun _ _ => rfl))) (blkOk_by (N := ["self", "number", "place", "light", "floor"]) (sc := defScope (inClass (Hs.top 103) 21)) (by decide +kernel)) (fun _ _ _ _ _ => (pg_tup rfl (pgs_cons (pg_name (i := 1) nd rfl (Or.inl rfl)) (pgs_cons (pg_tup rfl (pgs_cons (pg_name (i := 2) nd rfl (Or.inl rfl)) (pgs_cons (pg_name (i := 3) nd rfl (Or.inl rfl)) (pgs_cons (pg_name (i := 4) nd rfl (Or.inl rfl)) pgs_nil)))) pgs_nil)))) (fun _ _ _ _ _ => pts_nil) (fun _ _ _ _ _ => (pe_tup (pa_cons (pv 1) (pa_cons (pv 2) (pa_cons (pv 3) pa_nil)))))))), ?_⟩)
  · obtain ⟨h, dx, p, q, m, S, rfl, _⟩ := h
    rfl
  · obtain ⟨h, dx, p, q, m, S, rfl, a, k⟩ := h
    obtain ⟨s0, ps, qs, h1, h2, h3, h4, h5, h6, hS⟩ := a.ex
    obtain ⟨fl, lk, cm, tl, g1, hFl, g3, g4, g5⟩ := hS.ex
    obtain ⟨b, q2, q3, t1, t2, t3, f1, f2, f3, f4, f5, f6, f7⟩ := hFl.ex
    obtain ⟨w1, w2, w3, w4⟩ := hS.few
    obtain ⟨od, hb1⟩ := id g3
    refine ⟨_, rfl, h, C, dx, _, _, rfl, h1, hC.c, hC.s, rfl, s0, _, 1, _, rfl, rfl, g1, rfl, ?_⟩
    refine ⟨lk, od, tl, rfl, hb1, fun Dl hDl => ?_⟩
    refine lc_it walk_items (fun i H' => Ex H H' ∧ RowsD K H' Dl ((S.looks.map lookD).take i)) ⟨Ex.new hDl, [], upd_same, .nil⟩ (fun i H' _ q => q.1 _ _ hb1) (fun i x H' H'' hi q y => ?_) (fun H' q => ?_)
    · obtain ⟨T, x1, x2, rfl, hT, rfl, y1, y2⟩ := y
      obtain ⟨⟨key, v⟩, hkv⟩ : ∃ z, tl[i]? = some z := ⟨_, List.getElem?_eq_getElem hi⟩
      obtain ⟨z, hz⟩ : ∃ z, S.looks[i]? = some z := ⟨_, List.getElem?_eq_getElem (by rw [← g4.1]; exact hi)⟩
      dsimp only at y1 y2
      rw [hkv] at y1 y2
      cases y1
      cases y2
      have eT := Ex.new (o := .tup [kV key, v]) hT
      have e := q.1.trans eT
      have hd : (S.looks.map lookD)[i]? = some (lookD z) := by rw [List.getElem?_map, hz] <;> rfl
      obtain ⟨ek, lo, pl, lt, fl', rfl, l1, l2, l3, l4⟩ := g4.2 i key v z hkv hz
      subst ek
      refine ⟨T, _, rfl, st_of upd_same, rfl, _, _, rfl, _, _, rfl, ⟨lo, _, rfl, ex_t e l1, rfl, _, _, rfl, _, _, rfl, _, _, rfl, rfl, rfl, rfl, ?_⟩⟩
      refine ⟨_, rfl, _, rfl, _, rfl, sz_of (by simp), fun r hr => ?_⟩
      have x2 := Ex.new (o := .tup [V.int z.1, .ref pl, .ref lt]) hr
      exact dt_turn hDl q hd (by rw [List.length_map]; omega) (eT.trans x2) (.tup (st_of upd_same) (.cons (.int _) (.cons (dt_pt (ex_t (e.trans x2) l2)) (.cons (dt_tri (ex_t (e.trans x2) l3)) .nil))))
    · obtain ⟨e, q⟩ := q
      have el : tl.length = (S.looks.map lookD).length := by rw [List.length_map, g4.1]
      rw [el, List.take_length] at q
      exact k Dl H' hDl e q
def Stt.come (S : Stt) (w : Str) : Int := if w = "lamp" then S.cl else if w = "post" then S.cp else if w = "pane" then S.cn else S.ck
def spComing (K : PySem.W.Frag) (C : Addr) (n : Nat) : Sp := fun vs H Q _ => ∃ (h dx p q : Addr) (m : Nat) (S : Stt) (so : Str), vs = [.ref h, .str so] ∧ HsX K C n H h dx p q m S ∧ (so = "lamp" ∨ so = "post" ∨ so = "pane" ∨ so = "look") ∧ Q (.int (S.come so)) H
abbrev sComing : Stmt := (inClass (Hs.top 103) 23)
theorem scComing : FnScope ["self", "sort", "numbers"] ["self", "sort"] (defScope sComing) := ⟨rfl, rfl, rfl, by decide +kernel, rfl, by decide +kernel, by decide +kernel⟩
theorem ok_coming (F : FunD K "coming" "House.coming" (defArgs sComing) (defBody sComing) (defScope sComing) [] [] f fd) (hC : HouseC K C) : FnOk P w K mg base CX0 1 f fd ["self", "sort"] (spComing K C n) := by
  have nd := scComing.nd
  refine F.ok scComing (fun vs H Q E h => ?_) (fun cdv A outer s H vs Q E hr h => ⟨_, PSs.nox (pss_cons (ps_set (i := 2) nd rfl (.inl rfl) (pe_ix (r := rIxT K) ix_tup (pe_fld (pv 0) (by rfl)) pe_int (fun _ _ => rfl)))
  (pss_cons (ps_if (pt_cmp (pc_dnotin (Hs.un1 hr) (pv 1) (pv 2))) (pss_one ps_never) pss_nil)
  (pss_one (ps_ret (pe_dget (Hs.un1 hr) (pv 2) (pv 1) (fun _ _ => rfl)))))), ?_⟩)
  · obtain ⟨h, dx, p, q, m, S, so, rfl, _⟩ := h
    rfl
  · obtain ⟨h, dx, p, q, m, S, so, rfl, a, hso, k⟩ := h
    obtain ⟨s0, ps, qs, h1, h2, h3, h4, h5, h6, hS⟩ := a.ex
    obtain ⟨fl, lk, cm, tl, g1, hFl, g3, g4, g5⟩ := hS.ex
    refine ⟨_, rfl, h, C, dx, _, _, rfl, h1, hC.c, hC.s, rfl, s0, _, 2, _, rfl, rfl, g1, rfl, ?_⟩
    dsimp only [gName, List.set]
    have hv : valV (comC S.cl S.cp S.cn S.ck) (.inr so) = some (.int (S.come so)) := by
      rcases hso with rfl | rfl | rfl | rfl <;> rfl
    have hg : DGet H cm (.str so) (some (.int (S.come so))) := by
      have z := g5.get (k := .inr so)
      rw [hv] at z
      exact z
    refine ⟨_, rfl, _, rfl, cm, _, rfl, hg, _, rfl, ite_F rfl ?_⟩
    exact ⟨_, rfl, _, rfl, cm, _, rfl, hg, k⟩
end
end Hs
namespace Hs
open PySem PySem.Spec PyProof.Rows L2 Evl
/-! ### the law's things_so -/
theorem dOk_chc {c : Chc} : dOk 2 (chcD c) := ⟨by show 5 ≤ 1000; decide, fun d hd => by
  simp only [List.mem_cons, List.not_mem_nil, or_false] at hd
  rcases hd with rfl | rfl | rfl | rfl | rfl <;> exact True.intro⟩
theorem dOk_lamp {x : Int × LT} (h : x.2.1.length ≤ 1000) : dOk 4 (lampD x) := ⟨by show 3 ≤ 1000; decide, fun d hd => by
  simp only [List.mem_cons, List.not_mem_nil, or_false] at hd
  rcases hd with rfl | rfl | rfl
  · exact True.intro
  · refine ⟨by rw [List.length_map]; exact h, fun d hd => ?_⟩
    obtain ⟨c, _, rfl⟩ := List.mem_map.mp hd
    exact dOk_chc
  · exact True.intro⟩
theorem dOk_post {x : Int × Blk} : dOk 4 (postD x) := ⟨by show 2 ≤ 1000; decide, fun d hd => by
  simp only [List.mem_cons, List.not_mem_nil, or_false] at hd
  rcases hd with rfl | rfl
  · exact True.intro
  · refine ⟨by show 4 ≤ 1000; decide, fun d hd => ?_⟩
    simp only [List.mem_cons, List.not_mem_nil, or_false] at hd
    rcases hd with rfl | rfl | rfl | rfl <;> exact True.intro⟩
theorem dOk_pt {x : Pt} : dOk 2 (ptD x) := ⟨by show 2 ≤ 1000; decide, fun d hd => by
  simp only [List.mem_cons, List.not_mem_nil, or_false] at hd
  rcases hd with rfl | rfl <;> exact True.intro⟩
theorem dOk_pane {x : Int × Pan} : dOk 4 (paneD x) := ⟨by show 3 ≤ 1000; decide, fun d hd => by
  simp only [List.mem_cons, List.not_mem_nil, or_false] at hd
  rcases hd with rfl | rfl | rfl
  · exact True.intro
  · refine ⟨by show 2 ≤ 1000; decide, fun d hd => ?_⟩
    simp only [List.mem_cons, List.not_mem_nil, or_false] at hd
    rcases hd with rfl | rfl <;> exact dOk_pt
  · exact True.intro⟩
theorem dOk_list {n : Nat} {ds : List PyData} (hl : ds.length ≤ 1000) (h : ∀ d ∈ ds, dOk n d) : dOk (n + 1) (.list ds) := ⟨hl, h⟩
section
variable {K : PySem.W.Frag} {H : Hp} {σ : L2.St} {te tl : TE} {j : Nat} {vs : List Nat} {Q : VK} {xs : List V} {ds : List PyData}
theorem lc_dtN (h : EvL tl σ H xs) (hxd : xs.length = ds.length) (hl : ds.length ≤ 1000) (hw : ∀ x, wipe ((wipe σ vs).set j (some x)) vs = wipe σ vs)
    (hs : ∀ (i : Nat) (x : V) (d : PyData), xs[i]? = some x → ds[i]? = some d → ∀ H' Q', Ex H H' → (∀ v H2, Ex H' H2 → Dt K H2 v d → Q' v H2) → te ((wipe σ vs).set j (some x)) H' Q')
    (k : ∀ D H', H D = none → Ex H H' → RowsD K H' D ds → Q (.ref D) H') : tLc (iList K tl) (gName j) tYes te vs σ H Q := by
  refine h H (Ex.refl _) _ fun a H1 na e1 ha => ⟨a, rfl, ⟨_, sq_of ha⟩, fun Dl hDl => ?_⟩
  refine lc_it (walk_list (K := K) (a := a) (xs := xs)) (fun i H' => Ex H1 H' ∧ RowsD K H' Dl (ds.take i)) ⟨Ex.new hDl, [], upd_same, .nil⟩ (fun i H' _ q => sq_of (q.1 _ _ ha)) (fun i x H' H'' hi q y => ?_) (fun H' q => ?_)
  · obtain ⟨rfl, hx⟩ := y
    obtain ⟨d, hd⟩ : ∃ d, ds[i]? = some d := ⟨_, List.getElem?_eq_getElem (by rw [← hxd]; exact hi)⟩
    refine ⟨hw _, ?_⟩
    simp only [tYes, if_true]
    exact hs i x d hx hd _ _ (e1.trans q.1) fun v H2 e2 hv => dt_turn hDl q hd hl e2 hv
  · obtain ⟨e, q⟩ := q
    rw [hxd, List.take_length] at q
    exact k Dl H' (fresh_back e1 hDl) (e1.trans e) q
end
def spThingsSo (K : PySem.W.Frag) (C : Addr) : Sp := fun vs H Q _ => ∃ (h dx p q m : Addr) (k : Nat) (M : Md), vs = [.ref h, .ref m] ∧ HsX K C 20 H h dx p q k (stOf M) ∧ MdA K 20 H m M ∧ M.looks = [] ∧ (∀ x ∈ M.lamps, x.2.1.length ≤ 1000) ∧ RetV (.bl true) H Q
section
variable {P : Program} {w : World} {K : PySem.W.Frag} {mg : Str → Option Value} {base : Heap} {f C : Addr} {fd : FuncData} {n : Nat}
abbrev sThSo : Stmt := top 131
theorem scThSo : FnScope ["_law_house", "_law_m", "_law_lamps", "_law_number", "_law_choices", "_law_east", "_law_north", "_law_burns", "_law_led", "_law_posts", "_law_panes", "_law_notes", "_law_found", "_law_words", "_law_one", "_law_word"] ["_law_house", "_law_m"] (defScope sThSo) := ⟨rfl, rfl, rfl, by decide +kernel, rfl, by decide +kernel, by decide +kernel⟩
theorem ok_thingsSo (F : FnP K "_law_things_so" sThSo f fd) (M_lamps : MetX P w K mg base 1 C "lamps" ["self"] [] (spRowsH K C 20 fun S => S.fl.lamps.map lampD)) (M_posts : MetX P w K mg base 1 C "posts" ["self"] [] (spRowsH K C 20 fun S => S.fl.posts.map postD)) (M_panes : MetX P w K mg base 1 C "panes" ["self"] [] (spRowsH K C 20 fun S => S.fl.panes.map paneD)) (M_looks : MetX P w K mg base 1 C "looks" ["self"] [] (spRowsH K C 20 fun S => S.looks.map lookD)) (M_coming : MetX P w K mg base 1 C "coming" ["self", "sort"] [] (spComing K C 20)) (O__law_same : Own P w K mg base 6 "_law_same" ["_law_got", "_law_due"] (spSame K 6)) (g_sorted : mg "sorted" = none) (g_tuple : mg "tuple" = none) : FnOk P w K mg base CX0 7 f fd ["_law_house", "_law_m"] (spThingsSo K C) := by
  have nd := scThSo.nd
  refine F.ok scThSo (fun vs H Q E h => ?_) (fun cdv A outer s H vs Q E hr h => ⟨_, PSs.nox (pss_cons (ps_set (i := 2) nd rfl (.inl rfl) (pe_lst pa_nil))
  (pss_cons (ps_for PassesOwn.never rfl (pi_list (pe_callB (r := Hs.rSortDI) (Hs.cr_sortDI rfl) (by rfl) g_sorted (by decide +kernel) (pa_cons (pe_dget (Hs.un1 hr) (pv 1) pe_str (fun _ _ => rfl)) pa_nil))) (pg_name (i := 3) nd rfl (.inl rfl)) (pss_cons (ps_asg (pe_dget (Hs.un1 hr) (pe_dget (Hs.un1 hr) (pv 1) pe_str (fun _ _ => rfl)) (pv 3) (fun _ _ => rfl)) (pg_tup rfl (pgs_cons (pg_name (i := 4) nd rfl (.inl rfl)) (pgs_cons (pg_name (i := 5) nd rfl (.inr rfl)) (pgs_cons (pg_name (i := 6) nd rfl (.inr rfl)) (pgs_cons (pg_name (i := 7) nd rfl (.inl rfl)) pgs_nil))))))
  (pss_cons (ps_setLc (i := 8) (own := [("_law_one", 14)]) rfl nd rfl rfl (sw_true rfl rfl rfl (by decide +kernel)) (pi_tup (pv 4)) (blkOk_by (N := ["_law_house", "_law_m", "_law_lamps", "_law_number", "_law_choices", "_law_east", "_law_north", "_law_burns", "_law_led", "_law_posts", "_law_panes", "_law_notes", "_law_found", "_law_words", "_law_one", "_law_word"]) (sc := defScope (Hs.top 131)) (by decide +kernel)) (fun _ _ _ _ _ => (pg_name (i := 14) nd rfl (Or.inl rfl))) (fun _ _ _ _ _ => pts_nil) (fun _ _ _ _ _ => (pe_op (r := rCatT K) op_catT (pe_tup (pa_cons (pe_op op_add (pe_ix (r := rIxT K) ix_tup (pv 14) pe_int (fun _ _ => rfl)) (pv 5)) (pa_cons (pe_op op_add (pe_ix (r := rIxT K) ix_tup (pv 14) pe_int (fun _ _ => rfl)) (pv 6)) pa_nil))) (pe_slice (r := rSlT K) sl_tup (pv 14) (po_some pe_int) po_none))))
  (pss_one (ps_expr (pe_bm PySem.F.plainAttrs_list PySem.F.slot_list_append PySem.F.type_list_append mt_append (pv 2) (pa_cons (pe_tup (pa_cons (pv 3) (pa_cons (pe_callTy (T := "tuple") (r := Hs.rTupK K) call_tuple_of (by rfl) g_tuple (by decide +kernel) (pa_cons (by exact (pv 8)) pa_nil)) (pa_cons (pv 7) pa_nil)))) pa_nil)))))))
  (pss_cons (ps_setLc (i := 9) (own := [("_law_number", 3)]) rfl nd rfl rfl (sw_true rfl rfl rfl (by decide +kernel)) (pi_list (pe_callB (r := Hs.rSortDI) (Hs.cr_sortDI rfl) (by rfl) g_sorted (by decide +kernel) (pa_cons (pe_dget (Hs.un1 hr) (pv 1) pe_str (fun _ _ => rfl)) pa_nil))) (blkOk_by (N := ["_law_house", "_law_m", "_law_lamps", "_law_number", "_law_choices", "_law_east", "_law_north", "_law_burns", "_law_led", "_law_posts", "_law_panes", "_law_notes", "_law_found", "_law_words", "_law_one", "_law_word"]) (sc := defScope (Hs.top 131)) (by decide +kernel)) (fun _ _ _ _ _ => (pg_name (i := 3) nd rfl (Or.inl rfl))) (fun _ _ _ _ _ => pts_nil) (fun _ _ _ _ _ => (pe_tup (pa_cons (pv 3) (pa_cons (pe_dget (Hs.un1 hr) (pe_dget (Hs.un1 hr) (pv 1) pe_str (fun _ _ => rfl)) (pv 3) (fun _ _ => rfl)) pa_nil)))))
  (pss_cons (ps_setLc (i := 10) (own := [("_law_number", 3)]) rfl nd rfl rfl (sw_true rfl rfl rfl (by decide +kernel)) (pi_list (pe_callB (r := Hs.rSortDI) (Hs.cr_sortDI rfl) (by rfl) g_sorted (by decide +kernel) (pa_cons (pe_dget (Hs.un1 hr) (pv 1) pe_str (fun _ _ => rfl)) pa_nil))) (blkOk_by (N := ["_law_house", "_law_m", "_law_lamps", "_law_number", "_law_choices", "_law_east", "_law_north", "_law_burns", "_law_led", "_law_posts", "_law_panes", "_law_notes", "_law_found", "_law_words", "_law_one", "_law_word"]) (sc := defScope (Hs.top 131)) (by decide +kernel)) (fun _ _ _ _ _ => (pg_name (i := 3) nd rfl (Or.inl rfl))) (fun _ _ _ _ _ => pts_nil) (fun _ _ _ _ _ => (pe_tup (pa_cons (pv 3) (pa_cons (pe_slice (r := rSlT K) sl_tup (pe_dget (Hs.un1 hr) (pe_dget (Hs.un1 hr) (pv 1) pe_str (fun _ _ => rfl)) (pv 3) (fun _ _ => rfl)) po_none (po_some pe_int)) (pa_cons (pe_ix (r := rIxT K) ix_tup (pe_dget (Hs.un1 hr) (pe_dget (Hs.un1 hr) (pv 1) pe_str (fun _ _ => rfl)) (pv 3) (fun _ _ => rfl)) pe_int (fun _ _ => rfl)) pa_nil))))))
  (pss_cons (ps_setLc (i := 11) (own := [("_law_number", 3)]) rfl nd rfl rfl (sw_true rfl rfl rfl (by decide +kernel)) (pi_list (pe_callB (r := Hs.rSortDI) (Hs.cr_sortDI rfl) (by rfl) g_sorted (by decide +kernel) (pa_cons (pe_dget (Hs.un1 hr) (pv 1) pe_str (fun _ _ => rfl)) pa_nil))) (blkOk_by (N := ["_law_house", "_law_m", "_law_lamps", "_law_number", "_law_choices", "_law_east", "_law_north", "_law_burns", "_law_led", "_law_posts", "_law_panes", "_law_notes", "_law_found", "_law_words", "_law_one", "_law_word"]) (sc := defScope (Hs.top 131)) (by decide +kernel)) (fun _ _ _ _ _ => (pg_name (i := 3) nd rfl (Or.inl rfl))) (fun _ _ _ _ _ => pts_nil) (fun _ _ _ _ _ => Hs.pe_nev))
  (pss_cons (ps_set (i := 12) nd rfl (.inl rfl) (pe_lst (pa_cons (Hs.pe_metX0 (E := E0) M_lamps hr (by decide) passL (pv 0)) (pa_cons (Hs.pe_metX0 (E := E0) M_posts hr (by decide) passL (pv 0)) (pa_cons (Hs.pe_metX0 (E := E0) M_panes hr (by decide) passL (pv 0)) (pa_cons (Hs.pe_metX0 (E := E0) M_looks hr (by decide) passL (pv 0)) pa_nil))))))
  (pss_cons (ps_if (pt_not (pt_val (Hs.pe_own O__law_same hr (by first | decide | omega) (by rfl) (pa_cons (pv 12) (pa_cons (pe_lst (pa_cons (pv 2) (pa_cons (pv 9) (pa_cons (pv 10) (pa_cons (pv 11) pa_nil))))) pa_nil))))) (pss_one (ps_ret pe_bl)) pss_nil)
  (pss_cons (ps_set (i := 13) nd rfl (.inl rfl) (pe_tup (pa_cons pe_str (pa_cons pe_str (pa_cons pe_str (pa_cons pe_str pa_nil))))))
  (pss_one (ps_ret (Hs.pe_own O__law_same hr (by first | decide | omega) (by rfl) (pa_cons (pe_lc (own := [("_law_word", 15)]) rfl nd (pi_tup (pv 13)) (blkOk_by (N := ["_law_house", "_law_m", "_law_lamps", "_law_number", "_law_choices", "_law_east", "_law_north", "_law_burns", "_law_led", "_law_posts", "_law_panes", "_law_notes", "_law_found", "_law_words", "_law_one", "_law_word"]) (sc := defScope (Hs.top 131)) (by decide +kernel)) (fun _ _ _ _ _ => (pg_name (i := 15) nd rfl (Or.inl rfl))) (fun _ _ _ _ _ => pts_nil) (fun _ _ _ _ _ => (Hs.pe_metX (E := E0) M_coming hr (by decide) passL (pv 0) (pa_cons (pv 15) pa_nil)))) (pa_cons (pe_lc (own := [("_law_word", 15)]) rfl nd (pi_tup (pv 13)) (blkOk_by (N := ["_law_house", "_law_m", "_law_lamps", "_law_number", "_law_choices", "_law_east", "_law_north", "_law_burns", "_law_led", "_law_posts", "_law_panes", "_law_notes", "_law_found", "_law_words", "_law_one", "_law_word"]) (sc := defScope (Hs.top 131)) (by decide +kernel)) (fun _ _ _ _ _ => (pg_name (i := 15) nd rfl (Or.inl rfl))) (fun _ _ _ _ _ => pts_nil) (fun _ _ _ _ _ => (pe_dget (Hs.un1 hr) (pe_dget (Hs.un1 hr) (pv 1) pe_str (fun _ _ => rfl)) (pv 15) (fun _ _ => rfl)))) pa_nil))))))))))))), ?_⟩)
  · obtain ⟨h, dx, p, q, m, k, M, rfl, _⟩ := h
    rfl
  · obtain ⟨h, dx, p, q, m, kk, M, rfl, a, hM, hlk, hlen, k⟩ := h
    obtain ⟨T, ⟨D, fm, fT⟩, hc, hk, hl, hp, hpn⟩ := hM.ex
    have m1 : ("lamp" : Str) ∈ mW := by decide +kernel
    have m2 : ("post" : Str) ∈ mW := by decide +kernel
    have m3 : ("pane" : Str) ∈ mW := by decide +kernel
    have m4 : ("look" : Str) ∈ mW := by decide +kernel
    have m5 : ("came" : Str) ∈ mW := by decide +kernel
    have hf := hM.few
    refine q_asgL (xs := []) (el_lst ea_nil (by simp)) fun fo H1 nfo e1 hfo => ?_
    dsimp only [List.set]
    have hd1 : (M.lamps.map fun x => lampD (x.1, lmF x.2)) = (stOf M).fl.lamps.map lampD := by
      show _ = (M.lamps.map fun x => (x.1, lmF x.2)).map lampD
      rw [List.map_map]
      rfl
    refine q_forNL (K := K) (el_sort (xs := M.lamps) (ev_fz (key := .inr "lamp") (ev_var rfl) ev_c (fm.ext e1) (valV_row m1)) ((fT _ m1).ext e1) hl.keys hM.ul.1 (by omega)) (fun pl i σ' H' => H1 pl = none ∧ H' pl = some (.lst ((M.lamps.map (·.1)).map V.int)) ∧ Ex H H' ∧ RowsD K H' fo ((M.lamps.map fun x => lampD (x.1, lmF x.2)).take i) ∧ ∃ v3 v4 v5 v6 v7 v8 : Option V, σ' = [some (.ref h), some (.ref m), some (.ref fo), v3, v4, v5, v6, v7, v8, none, none, none, none, none, none, none]) ?_ ?_ ?_ ?_
    · intro pl H2 np2 e2 hpl
      exact ⟨np2, hpl, e1.trans e2, ⟨[], e2 _ _ hfo, .nil⟩, none, none, none, none, none, none, rfl⟩
    · rintro pl i σ' H' _ ⟨_, hpl, _⟩
      exact sq_of hpl
    · rintro pl i x σ' H' hx ⟨npl, hpl, e, hR, v3, v4, v5, v6, v7, v8, rfl⟩
      obtain ⟨y, hy, rfl⟩ := keys_at hx
      obtain ⟨v, hv, th, ch, ps, rfl, g1, g2, g3, g4⟩ := hl.get hM.ul.1 hy
      dsimp only [gName, List.set]
      refine (ev_fz (key := .inl y.1) (ev_fz (key := .inr "lamp") (ev_var rfl) ev_c (fm.ext e) (valV_row m1)) (ev_var rfl) ((fT _ m1).ext e) hv) H' (Ex.refl _) _ fun H2 e2 => ?_
      have e02 := e.trans e2
      refine ⟨th, _, rfl, ex_t e02 g1, rfl, _, _, rfl, _, _, rfl, _, _, rfl, _, _, rfl, rfl, ?_⟩
      dsimp only [gName, List.set]
      refine q_asgV ?_
      refine lc_dtT (K := K) (xs := ps.map V.ref) (ds := (lmF y.2).1.map chcD) (ev_var rfl) (ex_t e02 g2) ?_ ?_ (fun _ => rfl) (fun j x d hx hd H' Q' e' hQ => ?_) (fun D4 H4 nD4 e4 hD4 => ?_)
      · rw [List.length_map, List.length_map]
        show ps.length = (y.2.1.map _).length
        rw [List.length_map, g3]
      · rw [List.length_map]
        show (y.2.1.map _).length ≤ 1000
        rw [List.length_map]
        exact hlen y (List.mem_of_getElem? hy)
      · rw [List.getElem?_map] at hx hd
        obtain ⟨pp, hpp, rfl⟩ := Option.map_eq_some_iff.mp hx
        obtain ⟨c', hc', rfl⟩ := Option.map_eq_some_iff.mp hd
        have hc2 : (y.2.1.map (shiftC y.2.2.1 y.2.2.2.1))[j]? = some c' := hc'
        rw [List.getElem?_map] at hc2
        obtain ⟨c, hcc, rfl⟩ := Option.map_eq_some_iff.mp hc2
        have hp' := ex_t (e02.trans e') (g4 j pp c hpp hcc)
        refine (eu_tup (vs := prV (c.1 + y.2.2.1, c.2.1 + y.2.2.2.1)) (ea_cons (ev_op (ev_op (ev_var rfl) ev_c (rv_ixT hp' rfl)) (ev_var rfl) rv_I0) (ea_cons (ev_op (ev_op (ev_var rfl) ev_c (rv_ixT hp' rfl)) (ev_var rfl) rv_I0) ea_nil)) (by show 2 ≤ 100000; decide)) H' (Ex.refl _) _ fun p6 H6 np6 e6 h6 => ?_
        refine (eu_sl (K := K) (xs := chv c) (lo := some 2) (hi := none) (ev_var rfl) (eo_some ev_c) eo_none (ex_t e6 hp') (fun z => nomatch (show (2 : Nat) = 0 from z.1))) H6 (Ex.refl _) _ fun p7 H7 np7 e7 h7 => ?_
        exact ⟨p6, p7, _, _, rfl, rfl, st_of (e7 _ _ h6), st_of h7, by rw [List.ne_nil_iff_length_pos]; show 0 < 2; decide, by show 2 + 3 ≤ sizeLine; decide, (fun z => by cases z), fun _ u hu => hQ (.ref u) _ ((e6.trans e7).trans (Ex.new hu)) (dt_chc (c := shiftC y.2.2.1 y.2.2.2.1 c) (st_of upd_same))⟩
      · obtain ⟨ys, hys, hdt⟩ := hD4
        obtain ⟨acc, hacc, hdts⟩ := hR
        have e24 := e2.trans e4
        refine ⟨_, rfl, .inl ⟨rfl, _, sq_of (e24 _ _ hacc)⟩, _, rfl, _, rfl, D4, ys, rfl, .inl ⟨sq_of hys, fun tl htl => ⟨_, rfl, sz_of (by simp), fun r hr => ?_⟩⟩⟩
        have x5 := Ex.new (o := .tup ys) htl
        have x6 := Ex.new (o := .tup [V.int y.1, .ref tl, .bl y.2.2.2.2]) hr
        have e46 := x5.trans x6
        have e26 := e24.trans e46
        have hfo6 := e26 _ _ hacc
        have hln := hdts.len
        rw [List.length_take, List.length_map] at hln
        refine ⟨fo, acc, _, rfl, rfl, hfo6, sz_lt (by omega), npl, ?_, Ex.mut (e.trans e26) nfo, ?_, _, _, _, _, _, _, rfl⟩
        · rw [upd_ne (ne_of_none hfo npl).symm]
          exact e26 _ _ hpl
        · have hd : (M.lamps.map fun x => lampD (x.1, lmF x.2))[i]? = some (lampD (y.1, lmF y.2)) := by rw [List.getElem?_map, hy] <;> rfl
          rw [List.take_add_one, hd]
          exact RowsD.snoc hfo6 (DtAll.kp (Kp.of e26) _ _ hdts) (.tup (st_of upd_same) (.cons (.int _) (.cons (.tup (st_of (x6 _ _ upd_same)) (DtAll.kp (Kp.of e46) _ _ hdt)) (.cons (.bl _) .nil))))
    · rintro pl σ' H2 ⟨npl, hpl, e, hR, v3, v4, v5, v6, v7, v8, rfl⟩
      have el : ((M.lamps.map (·.1)).map V.int).length = (M.lamps.map fun x => lampD (x.1, lmF x.2)).length := by simp
      rw [el, List.take_length, hd1] at hR
      obtain ⟨_, hfo2, _⟩ := id hR
      -- the posts
      refine q_asgV ?_
      refine lc_dtN (K := K) (xs := (M.posts.map (·.1)).map V.int) (ds := M.posts.map postD) (el_sort (xs := M.posts) (ev_fz (key := .inr "post") (ev_var rfl) ev_c (fm.ext e) (valV_row m2)) ((fT _ m2).ext e) hp.keys hM.up.1 (by omega)) (by simp) (by rw [List.length_map]; omega) (fun _ => rfl) (fun j x d hx hd H' Q' e' hQ => ?_) (fun D3 H3 nD3 e3 hD3 => ?_)
      · obtain ⟨y, hy, rfl⟩ := keys_at hx
        rw [List.getElem?_map, hy] at hd
        cases hd
        obtain ⟨v, hv, pb, rfl, hB⟩ := hp.get hM.up.1 hy
        have ee := e.trans e'
        refine ⟨_, rfl, ?_⟩
        refine (ev_fz (key := .inl y.1) (ev_fz (key := .inr "post") (ev_var rfl) ev_c (fm.ext ee) (valV_row m2)) (ev_var rfl) ((fT _ m2).ext ee) hv) H' (Ex.refl _) _ fun H4 e4 => ⟨sz_of (by simp), fun r hr => ?_⟩
        have x5 := Ex.new (o := .tup [V.int y.1, .ref pb]) hr
        exact hQ (.ref r) _ (e4.trans x5) (.tup (st_of upd_same) (.cons (.int _) (.cons (dt_blk (hB.ext ((ee.trans e4).trans x5))) .nil)))
      have e03 := e.trans e3
      dsimp only [List.set]
      -- the panes
      refine q_asgV ?_
      refine lc_dtN (K := K) (xs := (M.panes.map (·.1)).map V.int) (ds := M.panes.map paneD) (el_sort (xs := M.panes) (ev_fz (key := .inr "pane") (ev_var rfl) ev_c (fm.ext e03) (valV_row m3)) ((fT _ m3).ext e03) hpn.keys hM.un.1 (by omega)) (by simp) (by rw [List.length_map]; omega) (fun _ => rfl) (fun j x d hx hd H' Q' e' hQ => ?_) (fun D4 H4 nD4 e4 hD4 => ?_)
      · obtain ⟨y, hy, rfl⟩ := keys_at hx
        rw [List.getElem?_map, hy] at hd
        cases hd
        obtain ⟨v, hv, pb, c1, c2, rfl, g1, g2, g3⟩ := hpn.get hM.un.1 hy
        have ee := e03.trans e'
        refine ⟨_, rfl, ?_⟩
        refine (eu_sl (K := K) (xs := [.ref c1, .ref c2, .str y.2.2.2]) (lo := none) (hi := some 2) (ev_fz (key := .inl y.1) (ev_fz (key := .inr "pane") (ev_var rfl) ev_c (fm.ext ee) (valV_row m3)) (ev_var rfl) ((fT _ m3).ext ee) hv) eo_none (eo_some ev_c) (ex_t ee g1) (fun z => nomatch (show (2 : Nat) = 3 from z.2))) H' (Ex.refl _) _ fun t5 H5 n5 e5 h5 => ?_
        refine (ev_op (ev_fz (key := .inl y.1) (ev_fz (key := .inr "pane") (ev_var rfl) ev_c (fm.ext (ee.trans e5)) (valV_row m3)) (ev_var rfl) ((fT _ m3).ext (ee.trans e5)) hv) ev_c (rv_ixT (ex_t (ee.trans e5) g1) rfl)) H5 (Ex.refl _) _ fun H6 e6 => ⟨sz_of (by simp), fun r hr => ?_⟩
        have x7 := Ex.new (o := .tup [V.int y.1, .ref t5, .str y.2.2.2]) hr
        have e7 := (e5.trans e6).trans x7
        exact hQ (.ref r) _ e7 (.tup (st_of upd_same) (.cons (.int _) (.cons (.tup (st_of ((e6.trans x7) _ _ h5)) (.cons (dt_pt (ex_t (ee.trans e7) g2.1)) (.cons (dt_pt (ex_t (ee.trans e7) g3.1)) .nil))) (.cons (.str _) .nil))))
      have e04 := e03.trans e4
      dsimp only [List.set]
      -- the looks
      refine q_asgV ?_
      rw [hlk] at hk
      have hk4 : Fz H4 (D "look") [] := by
        have z := (fT _ m4).ext e04
        rwa [hk] at z
      refine lc_dtN (K := K) (xs := (([] : List (Int × Pt)).map (·.1)).map V.int) (ds := []) (el_sort (xs := ([] : List (Int × Pt))) (ev_fz (key := .inr "look") (ev_var rfl) ev_c (fm.ext e04) (valV_row m4)) hk4 rfl List.Pairwise.nil (by decide)) rfl (by decide) (fun _ => rfl) (fun j x d hx hd H' Q' e' hQ => by cases hx) (fun D5 H5 nD5 e5 hD5 => ?_)
      have e05 := e04.trans e5
      dsimp only [List.set]
      have a5 := a.ext e05
      obtain ⟨fs, hh, hf0⟩ := a5.ins
      -- what the house tells
      refine q_asgV ⟨_, rfl, h, dx, fs, rfl, hh, hf0 "lamps" (by decide +kernel), h, dx, p, q, kk, stOf M, rfl, a5, fun L1 H6 nL1 e6 r1 => ?_⟩
      refine ⟨_, rfl, h, dx, fs, rfl, e6 _ _ hh, hf0 "posts" (by decide +kernel), h, dx, p, q, kk, stOf M, rfl, a5.ext e6, fun L2 H7 nL2 e7 r2 => ?_⟩
      refine ⟨_, rfl, h, dx, fs, rfl, (e6.trans e7) _ _ hh, hf0 "panes" (by decide +kernel), h, dx, p, q, kk, stOf M, rfl, a5.ext (e6.trans e7), fun L3 H8 nL3 e8 r3 => ?_⟩
      have e58 := (e6.trans e7).trans e8
      refine ⟨_, rfl, h, dx, fs, rfl, e58 _ _ hh, hf0 "looks" (by decide +kernel), h, dx, p, q, kk, stOf M, rfl, a5.ext e58, fun L4 H9 nL4 e9 r4 => ⟨sz_of (by simp), fun fd1 hfd1 => ?_⟩⟩
      have x10 := Ex.new (o := .lst [V.ref L1, .ref L2, .ref L3, .ref L4]) hfd1
      have e510 := (e58.trans e9).trans x10
      dsimp only [List.set]
      refine q_when (b := false) (fun H11 e11 Q' q' => ?_) (fun ht => Bool.noConfusion ht) (fun _ H11 e11 => ?_)
      · have e25 := (e3.trans e4).trans e5
        refine ⟨_, rfl, _, rfl, _, rfl, _, rfl, _, rfl, sz_of (by simp), fun l2 hl2 => ?_⟩
        have x12 := Ex.new (o := .lst [V.ref fo, .ref D3, .ref D4, .ref D5]) hl2
        have e12 := e11.trans x12
        have d1 : Dp K (upd H11 l2 (.lst [V.ref fo, .ref D3, .ref D4, .ref D5])) (.ref fd1) (.list [.list ((stOf M).fl.lamps.map lampD), .list (M.posts.map postD), .list (M.panes.map paneD), .list []]) :=
          .lst (sq_of (e12 _ _ upd_same)) (.cons (r1.ext ((e7.trans (e8.trans e9)).trans (x10.trans e12))).dp (.cons (r2.ext ((e8.trans e9).trans (x10.trans e12))).dp (.cons (r3.ext (e9.trans (x10.trans e12))).dp (.cons (r4.ext (x10.trans e12)).dp .nil))))
        have d2 : Dp K (upd H11 l2 (.lst [V.ref fo, .ref D3, .ref D4, .ref D5])) (.ref l2) (.list [.list ((stOf M).fl.lamps.map lampD), .list (M.posts.map postD), .list (M.panes.map paneD), .list []]) :=
          .lst (sq_of upd_same) (.cons (hR.ext ((e25.trans e510).trans e12)).dp (.cons (hD3.ext (((e4.trans e5).trans e510).trans e12)).dp (.cons (hD4.ext ((e5.trans e510).trans e12)).dp (.cons (hD5.ext (e510.trans e12)).dp .nil))))
        refine ⟨.ref fd1, .ref l2, rfl, sm_dp (dOk_list (by show 4 ≤ 1000; decide) fun d hd => ?_) d1 d2, fun H13 e13 => ⟨true, rfl, q' H13 (x12.trans e13)⟩⟩
        simp only [List.mem_cons, List.not_mem_nil, or_false] at hd
        rcases hd with rfl | rfl | rfl | rfl
        · refine dOk_list (by rw [List.length_map]; show (M.lamps.map _).length ≤ 1000; rw [List.length_map]; omega) fun d hd => ?_
          obtain ⟨x, hx, rfl⟩ := List.mem_map.mp hd
          obtain ⟨y, hy, rfl⟩ := List.mem_map.mp (show x ∈ M.lamps.map fun x => (x.1, lmF x.2) from hx)
          exact dOk_lamp (by show (y.2.1.map _).length ≤ 1000; rw [List.length_map]; exact hlen y hy)
        · refine dOk_list (by rw [List.length_map]; omega) fun d hd => ?_
          obtain ⟨x, _, rfl⟩ := List.mem_map.mp hd
          exact dOk_post
        · refine dOk_list (by rw [List.length_map]; omega) fun d hd => ?_
          obtain ⟨x, _, rfl⟩ := List.mem_map.mp hd
          exact dOk_pane
        · exact dOk_list (by decide) fun d hd => by cases hd
      · refine q_asgV ⟨sz_of (by simp), fun wt hwt => ?_⟩
        have x12 := Ex.new (o := .tup [V.str "lamp", .str "post", .str "pane", .str "look"]) hwt
        have hwt2 := upd_same (H := H11) (a := wt) (o := .tup [V.str "lamp", .str "post", .str "pane", .str "look"])
        have e512 := (e510.trans e11).trans x12
        have e012 := e05.trans e512
        generalize upd H11 wt (.tup [V.str "lamp", .str "post", .str "pane", .str "look"]) = H12 at x12 hwt2 e512 e012 ⊢
        dsimp only [List.set, tRet, tCall, tCons]
        have a12 := a5.ext e512
        have key : ∀ (j : Nat) (x : V) (d : PyData), ([V.str "lamp", .str "post", .str "pane", .str "look"] : List V)[j]? = some x → ([.int M.cl, .int M.cp, .int M.cn, .int M.ck] : List PyData)[j]? = some d → ∃ so : Str, x = .str so ∧ d = .int ((stOf M).come so) ∧ valV (comC M.cl M.cp M.cn M.ck) (.inr so) = some (.int ((stOf M).come so)) ∧ (so = "lamp" ∨ so = "post" ∨ so = "pane" ∨ so = "look") := by
          intro j x d hx hd
          match j, hx, hd with
          | 0, hx, hd =>
            cases hx
            cases hd
            exact ⟨"lamp", rfl, rfl, rfl, .inl rfl⟩
          | 1, hx, hd =>
            cases hx
            cases hd
            exact ⟨"post", rfl, rfl, rfl, .inr (.inl rfl)⟩
          | 2, hx, hd =>
            cases hx
            cases hd
            exact ⟨"pane", rfl, rfl, rfl, .inr (.inr (.inl rfl))⟩
          | 3, hx, hd =>
            cases hx
            cases hd
            exact ⟨"look", rfl, rfl, rfl, .inr (.inr (.inr rfl))⟩
          | j + 4, hx, _ => cases hx
        refine lc_dtT (K := K) (xs := [V.str "lamp", .str "post", .str "pane", .str "look"]) (ds := [.int M.cl, .int M.cp, .int M.cn, .int M.ck]) (ev_var rfl) (st_of hwt2) rfl (by show 4 ≤ 1000; decide) (fun _ => rfl) (fun j x d hx hd H' Q' e' hQ => ?_) (fun W1 H13 nW1 e13 r13 => ?_)
        · obtain ⟨so, rfl, rfl, hv, hso⟩ := key j x d hx hd
          exact ⟨_, rfl, h, dx, fs, rfl, (e512.trans e') _ _ hh, hf0 "coming" (by decide +kernel), _, rfl, h, dx, p, q, kk, stOf M, so, rfl, a12.ext e', hso, hQ _ H' (Ex.refl _) (.int _)⟩
        · refine lc_dtT (K := K) (xs := [V.str "lamp", .str "post", .str "pane", .str "look"]) (ds := [.int M.cl, .int M.cp, .int M.cn, .int M.ck]) (ev_var rfl) (st_of (e13 _ _ hwt2)) rfl (by show 4 ≤ 1000; decide) (fun _ => rfl) (fun j x d hx hd H' Q' e' hQ => ?_) (fun W2 H14 nW2 e14 r14 => ?_)
          · obtain ⟨so, rfl, rfl, hv, hso⟩ := key j x d hx hd
            have ee := (e012.trans e13).trans e'
            have hcm : Fz H' (D "came") (comC M.cl M.cp M.cn M.ck) := by
              have z := (fT _ m5).ext ee
              rwa [hc] at z
            exact (ev_fz (key := .inr so) (ev_fz (key := .inr "came") (ev_var rfl) ev_c (fm.ext ee) (valV_row m5)) (ev_var rfl) hcm hv) H' (Ex.refl _) _ fun H5 e5 => hQ _ H5 e5 (.int _)
          · refine ⟨.ref W1, .ref W2, rfl, sm_dp (dOk_list (by show 4 ≤ 1000; decide) fun d hd => ?_) (r13.ext e14).dp r14.dp, fun H15 e15 => k H15 (((e012.trans e13).trans e14).trans e15)⟩
            simp only [List.mem_cons, List.not_mem_nil, or_false] at hd
            rcases hd with rfl | rfl | rfl | rfl <;> exact True.intro
end
end Hs
namespace Hs
open PySem PySem.Spec PyProof.Rows L2 Evl
/-! ### len(set(t)), t a tuple or a list of tuples of ints -/
section
variable {P : Program} {w : World} {A : Around} {E : Value → Shared → Prop} {s : Shared}
/-- an empty set, as it is made -/
def noSet (w : World) : Obj := { cls := .type "set", dict := none, data := .set #[] 0 (.fresh 0 0 (!w.params.followText "set-order")) }
/-- the set at the heap's end is filled from a tuple's iterator behind it -/
theorem fill_tups {l : Addr} {items : Array Value} (ks : List (Addr × List Int)) {R : Result → Shared → Prop} (hh : A.handled = none) (hl : s.heap.IsTuple l items) (hit : items.toList = ks.map fun p => Value.ref p.1)
    (hk : ∀ p ∈ ks, IsT P w s.heap p.2 p.1) (hfew : ks.length < 64) (hu : A.in1.units < cLine)
    (h : ∀ (h' : Heap) (tk : Nat) L es ep t, SetTR P w h' s.heap.objs.size L es ep t → Got ks ks.length L → (∀ b o, s.heap.get? b = some o → h'.get? b = some o) → R (.ok (.ret .none)) { s with heap := h', toks := tk }) :
    codeAny (model P w) A (.builtin "set.update.loop" ⟨[.ref s.heap.objs.size, .ref (s.heap.push (noSet w)).objs.size], []⟩) R { s with heap := (s.heap.push (noSet w)).push { cls := .type "tuple_iterator", data := .fields #[.ref l, .int 0 0] } } := by
  have n : items.size = ks.length := by
    rw [← Array.length_toList, hit, List.length_map]
  obtain ⟨ol, hol, _⟩ := id hl
  have lt : l < s.heap.objs.size := Heap.lt_size hol
  have z1 : (s.heap.push (noSet w)).objs.size = s.heap.objs.size + 1 := Heap.size_push ..
  have gone : ∀ b, s.heap.objs.size ≤ b → s.heap.get? b = none := fun b hb => Classical.byContradiction fun c => by
    obtain ⟨o, ho⟩ := Option.ne_none_iff_exists'.mp c
    exact absurd (Nat.lt_of_lt_of_le (Heap.lt_size ho) hb) (Nat.lt_irrefl _)
  have neI : l ≠ (s.heap.push (noSet w)).objs.size := by
    rw [z1]
    exact Nat.ne_of_lt (Nat.lt_succ_of_lt lt)
  have val : ∀ (i : Nat) (v : Value), items[i]? = some v → ∃ p, ks[i]? = some p ∧ v = .ref p.1 := fun i v hv => by
    have q : (ks.map fun p => Value.ref p.1)[i]? = some v := by rw [← hit, Array.getElem?_toList]; exact hv
    rw [List.getElem?_map] at q
    obtain ⟨p, hp, e⟩ := Option.map_eq_some_iff.mp q
    exact ⟨p, hp, e.symm⟩
  have atS : ((s.heap.push (noSet w)).push { cls := .type "tuple_iterator", data := .fields #[.ref l, .int 0 0] }).get? s.heap.objs.size = some (noSet w) := Heap.get?_push_of_some _ (Heap.get?_push_size _ rfl)
  refine set_update_tups (P := P) (w := w) (A := A) ((Walks.tuple (A := A.in1) hh _ l neI items).toS) s.heap.objs.size ?_ ks n hfew val s.heap hk (gone _ (Nat.le_refl _)) (fun b hb => gone b ?_) hu _ 0 _ rfl (Nat.zero_le _) ⟨⟨_, Heap.get?_push_size _ rfl, rfl, rfl⟩, (hl.push _).push _⟩ (fun b o e => Heap.get?_push_of_some _ (Heap.get?_push_of_some _ e)) ⟨[], #[], 0, _, setTR_fresh atS, Got.zero ks⟩ ?_
  · rw [z1]
    simp only [List.mem_cons, List.not_mem_nil, or_false, not_or]
    exact ⟨Nat.ne_of_lt (Nat.lt_succ_self _), Nat.ne_of_gt lt⟩
  · rw [List.mem_singleton.mp hb, z1]
    exact Nat.le_succ _
  · intro s' L es ep t hm R' g' kp
    obtain ⟨h', g2, d', tk', os'⟩ := s'
    obtain rfl : g2 = s.gens := hm.gens
    obtain rfl : d' = s.drawn := hm.drawn
    obtain rfl : os' = s.os := hm.os
    rw [n] at g'
    exact h h' tk' L es ep t R' g' kp
set_option maxRecDepth 100000 in
set_option maxHeartbeats 3200000 in
/-- set(t), t a tuple of tuples of ints -/
theorem call_set_tupT {l : Addr} {items : Array Value} (ks : List (Addr × List Int)) {Q : Value → Shared → Prop} (hh : A.handled = none) (hl : s.heap.IsTuple l items) (hit : items.toList = ks.map fun p => Value.ref p.1)
    (hk : ∀ p ∈ ks, IsT P w s.heap p.2 p.1) (hfew : ks.length < 64) (hu : A.units + 3 < cLine)
    (h : ∀ (h' : Heap) (tk : Nat) L es ep t, SetTR P w h' s.heap.objs.size L es ep t → Got ks ks.length L → (∀ b o, s.heap.get? b = some o → h'.get? b = some o) → Q (.ref s.heap.objs.size) { s with heap := h', toks := tk }) :
    wpAny (model P w) A (call (.type "set") [.ref l]) Q E s := by
  have a0 := F.called_set.mro
  have a1 := F.called_set.made
  have a2 := F.called_set.sub
  have a3 := F.called_set.notType
  have a4 := F.called_set.canCreate
  have a5 := F.typeCall_set_1 (.ref l)
  obtain ⟨c, tl, a6⟩ := a0
  refine wpAny_call (codeAny_of_tree (wpAny_pure ⟨Code.quiet_builtin _ (by decide +kernel), codeAny_builtin F.entry_type_call ?_⟩))
  rw [Around.under_plain (weight_type_call_type "set" [.ref l] []) rfl]
  repeat (any_goals (first | assumption | wp_step))
  refine codeAny_mono (code_set_led1 (.ref l) (E := E) (Q₁ := fun u s₁ => u = .ref s.heap.objs.size ∧ s₁ = { s with heap := s.heap.push (noSet w) }) ⟨rfl, rfl⟩) fun r s₁ hr => ?_
  match r, hr with
  | .error e, hr => exact hr
  | .ok .next, hr => exact hr.elim
  | .ok .brk, hr => exact hr.elim
  | .ok .cont, hr => exact hr.elim
  | .ok (.ret u), hr =>
    obtain ⟨rfl, rfl⟩ := hr
    have b0 : (s.heap.push (noSet w)).get? s.heap.objs.size = some (noSet w) := Heap.get?_push_size _ rfl
    have b1 : Shared.TypeIs { s with heap := s.heap.push (noSet w) } (.ref s.heap.objs.size) "set" := ⟨_, b0, rfl⟩
    have b2 := F.called_set.init.lookup
    have b3 := F.called_set.init.bind (.ref s.heap.objs.size)
    repeat (any_goals (first | assumption | wp_step))
    refine codeAny_mono (codeAny_call_builtin (R := wants (fun r s₂ => r = .none ∧ ∃ h' tk L es ep t, s₂ = { s with heap := h', toks := tk } ∧ SetTR P w h' s.heap.objs.size L es ep t ∧ Got ks ks.length L ∧
      (∀ b o, s.heap.get? b = some o → h'.get? b = some o)) E) F.called_set.init.plain F.entry_set_init (check_set_init_1 b1 ?_)) fun r₂ s₂ hr₂ => ?_
    · obtain ⟨⟨ocls, odict, odata, oslots⟩, hol, hcl, nl, hdl⟩ := id hl
      simp only at hcl hdl
      subst hcl hdl
      have c1 : (s.heap.push (noSet w)).get? l = some { cls := .type "tuple", dict := odict, data := .seq items nl, slots := oslots } := Heap.get?_push_of_some _ hol
      have c2 := F.sub_tuple_set
      have c3 := F.sub_tuple_frozenset
      have c4 : (Value.type "tuple" == Value.type "dict") = false := by decide
      unfold Builtin.«set.__init__» noKeywords Builtin.Frozenset.updateFrom
      generalize hIt : pyIter = It
      wp_walk
      subst hIt
      refine wpAny_pyIter_tuple (hl.push _) (wpAny_bind (wpAny_runValue ?_))
      refine fill_tups (A := A.in1.in1) (s := s) ks (by simp [hh]) hl hit hk hfew hu fun h' tk L es ep t R' g' kp => ?_
      show wpAny _ _ _ _ _ _
      refine wpAny_pure ?_
      show wpAny _ _ (ret Value.none) _ _ _
      exact wpAny_pure ⟨rfl, h', tk, L, es, ep, t, rfl, R', g', kp⟩
    · match r₂, hr₂ with
      | .error e, hr₂ => exact hr₂
      | .ok .next, hr₂ => exact hr₂.elim
      | .ok .brk, hr₂ => exact hr₂.elim
      | .ok .cont, hr₂ => exact hr₂.elim
      | .ok (.ret u), hr₂ =>
        obtain ⟨rfl, h', tk, L, es, ep, t, rfl, R', g', kp⟩ := hr₂
        repeat (any_goals (first | assumption | wp_step))
        exact h _ _ _ _ _ _ R' g' kp
end
/-- set(xs), xs a list or a tuple of tuples of ints -/
def rSetT (K : PySem.W.Frag) (P : Program) (w : World) : List V → Hp → VK → Prop := fun xs H Q => ∃ (l : Addr) (ks : List (Addr × List Int)), xs = [V.ref l] ∧ (SqL K H l (ks.map fun p => V.ref p.1) ∨ SqT K H l (ks.map fun p => V.ref p.1)) ∧ (∀ p ∈ ks, SqT K H p.1 (p.2.map V.int)) ∧ ks.length < 64 ∧
  ∀ a L, H a = none → (∀ p ∈ L, p ∈ ks) → (∀ p ∈ ks, p.2 ∈ L.map (·.2)) → Q (.ref a) (upd H a (SetTO P w a L))
theorem cr_setT {X : Cx} (hc : X.calm = true) (hu : X.A.units + 64 < cLine) : CallR X (.type "set") (rSetT X.K X.prog X.w) := by
  intro pins s σ H xs us Q I r h
  obtain ⟨l, ks, rfl, hl | hl, hk, hf, q⟩ := h
  · exact cr_setOfT hc hu pins s σ H _ us Q I r ⟨l, ks, rfl, hl, hk, hf, q⟩
  · rw [Vals.ref1 r]
    obtain ⟨its, rv, pl, hz⟩ := I.tuple hl
    have hn : H s.heap.objs.size = none := I.hok.fresh (Nat.le_refl _)
    refine call_set_tupT (P := X.prog) (w := X.w) (items := its.toArray) ks (I.ok.hd hc) pl (by simpa using refs_of_vals rv) (fun p hp => I.isT (hk p hp)) hf (by omega) fun h' tk L es ep t R g k => ?_
    refine ⟨.ref s.heap.objs.size, upd H s.heap.objs.size (SetTO X.prog X.w s.heap.objs.size L), I.laid (t' := tk) k (Nat.le_refl _) (setTO_new R.t0), rfl, q _ L hn (fun p hp => ?_) fun p hp => ?_⟩
    · exact List.mem_of_mem_take (g.sub p hp)
    · exact g.all p (by rw [List.take_length]; exact hp)
/-- len(s), s such a set -/
def rLenT (K : PySem.W.Frag) (P : Program) (w : World) : List V → Hp → VK → Prop := fun xs H Q => ∃ (a : Addr) (L : List (Addr × List Int)), xs = [V.ref a] ∧ H a = some (SetTO P w a L) ∧ (∀ p ∈ L, SqT K H p.1 (p.2.map V.int)) ∧ ((L.map (·.2)).Nodup → Q (.int (L.length : Nat)) H)
theorem cr_lenT {X : Cx} : CallR X (.builtin "len") (rLenT X.K X.prog X.w) := by
  intro pins s σ H xs us Q I r h
  obtain ⟨a, L, rfl, ha, hk, q⟩ := h
  rw [Vals.ref1 r]
  obtain ⟨es, ep, t, R⟩ := ((I.hok a _ ha).1 : SetT0 X.prog X.w s.heap a L).full fun p hp => I.isT (hk p hp)
  obtain ⟨o, ho, hex, hd⟩ := R.ob
  have hz := R.size
  have q' := q R.nd
  rw [← hz] at q'
  exact call_len_set ho hex hd R.fits (by have := R.few; omega) ⟨.int es.size, H, I.tok _, ⟨_, rfl⟩, q'⟩
/-! how many unlike ones -/
def unlike {α : Type} [DecidableEq α] : List α → List α
  | [] => []
  | x :: xs => if x ∈ unlike xs then unlike xs else x :: unlike xs
theorem unlike_mem {α : Type} [DecidableEq α] {y : α} : ∀ {xs : List α}, y ∈ unlike xs ↔ y ∈ xs
  | [] => Iff.rfl
  | x :: xs => by
    unfold unlike
    split
    · rename_i h
      rw [unlike_mem]
      exact ⟨fun z => List.mem_cons_of_mem _ z, fun z => (List.mem_cons.mp z).elim (fun e => by rw [e]; exact unlike_mem.mp h) id⟩
    · rw [List.mem_cons, List.mem_cons, unlike_mem]
theorem unlike_nd {α : Type} [DecidableEq α] : ∀ (xs : List α), (unlike xs).Nodup
  | [] => List.nodup_nil
  | x :: xs => by
    unfold unlike
    split
    · exact unlike_nd xs
    · rename_i h
      exact List.nodup_cons.mpr ⟨h, unlike_nd xs⟩
theorem unlike_le {α : Type} [DecidableEq α] : ∀ (xs : List α), (unlike xs).length ≤ xs.length
  | [] => Nat.le_refl _
  | x :: xs => by
    have := unlike_le xs
    unfold unlike
    split <;> simp only [List.length_cons] <;> omega
theorem unlike_eq {α : Type} [DecidableEq α] : ∀ {xs : List α}, xs.Nodup → unlike xs = xs
  | [], _ => rfl
  | x :: xs, h => by
    obtain ⟨h1, h2⟩ := List.nodup_cons.mp h
    unfold unlike
    rw [unlike_eq h2, if_neg h1]
theorem unlike_lt {α : Type} [DecidableEq α] : ∀ {xs : List α}, ¬ xs.Nodup → (unlike xs).length < xs.length
  | [], h => absurd List.nodup_nil h
  | x :: xs, h => by
    have l := unlike_le xs
    unfold unlike
    split
    · simp only [List.length_cons]
      omega
    · rename_i hx
      simp only [List.length_cons]
      have : ¬ xs.Nodup := fun n => h (List.nodup_cons.mpr ⟨fun z => hx (unlike_mem.mpr z), n⟩)
      have := unlike_lt this
      omega
theorem unlike_len {α : Type} [DecidableEq α] {xs ys : List α} (h : ys.Nodup) (m : ∀ y, y ∈ ys ↔ y ∈ xs) : ys.length = (unlike xs).length :=
  ((List.perm_ext_iff_of_nodup h (unlike_nd xs)).mpr fun y => (m y).trans unlike_mem.symm).length_eq
/-- len(set(e)) -/
theorem ev_lenset {K : PySem.W.Frag} {P : Program} {w : World} {te : TE} {σ : L2.St} {H : Hp} {l : Addr} {ks : List (Addr × List Int)} (h : Ev te σ H (.ref l)) (hl : SqL K H l (ks.map fun p => V.ref p.1) ∨ SqT K H l (ks.map fun p => V.ref p.1)) (hk : ∀ p ∈ ks, SqT K H p.1 (p.2.map V.int)) (hf : ks.length < 64) :
    Ev (tCB (rLenT K P w) (tCons (tCB (rSetT K P w) (tCons te tNil)) tNil)) σ H (.int ((unlike (ks.map (·.2))).length : Nat)) := fun H1 e1 Q q =>
  h H1 e1 _ fun H2 e2 => ⟨l, ks, rfl, hl.imp (fun z => ex_l (e1.trans e2) z) fun z => ex_t (e1.trans e2) z, fun p hp => ex_t (e1.trans e2) (hk p hp), hf, fun a L na s1 s2 => ⟨a, L, rfl, upd_same, fun p hp => ex_t ((e1.trans e2).trans (Ex.new na)) (hk p (s1 p hp)), fun nd => by
    have z : L.length = (unlike (ks.map (·.2))).length := by
      rw [← unlike_len (ys := L.map (·.2)) nd fun y => ⟨fun hy => ?_, fun hy => ?_⟩, List.length_map]
      · obtain ⟨p, hp, rfl⟩ := List.mem_map.mp hy
        exact List.mem_map.mpr ⟨p, s1 p hp, rfl⟩
      · obtain ⟨p, hp, rfl⟩ := List.mem_map.mp hy
        exact s2 p hp
    rw [z]
    exact q _ (e2.trans (Ex.new na))⟩⟩
end Hs
namespace Hs
open PySem PySem.Spec PyProof.Rows L2 Evl
/-! ### products of up to twenty counts -/
def CntW (cs : List Int) : Prop := cs.length ≤ 20 ∧ ∀ c ∈ cs, 1 ≤ c ∧ c ≤ 6
theorem CntW.take {cs : List Int} (h : CntW cs) (i : Nat) : CntW (cs.take i).reverse := by
  refine ⟨?_, fun c hc => h.2 c (List.mem_of_mem_take (List.mem_reverse.mp hc))⟩
  rw [List.length_reverse, List.length_take]
  have := h.1
  omega
theorem PR_w {l : List Int} (h : CntW l) : 1 ≤ PR l ∧ PR l ≤ 6 ^ 20 := by
  obtain ⟨h1, h2⟩ := PR_bd h.2
  refine ⟨h1, Int.le_trans h2 ?_⟩
  have z : (6 : Nat) ^ l.length ≤ 6 ^ 20 := Nat.pow_le_pow_right (by decide) h.1
  exact_mod_cast z
theorem PR_64 {l : List Int} (h : CntW l) : (PR l).natAbs < 2 ^ 64 := by
  obtain ⟨h1, h2⟩ := PR_w h
  have e : (6 : Int) ^ 20 = 3656158440062976 := by decide
  omega
theorem CntW.rev {cs : List Int} (h : CntW cs) : CntW cs.reverse := by
  have z := h.take cs.length
  rwa [List.take_length] at z
def spManyW (K : PySem.W.Frag) : Sp := fun vs H Q _ => ∃ (a : Addr) (cs : List Int), vs = [.ref a] ∧ SqQ K H a (iv cs) ∧ CntW cs ∧ RetV (.int (PR cs.reverse)) H Q
section
variable {P : Program} {w : World} {K : PySem.W.Frag} {mg : Str → Option Value} {base : Heap} {f C : Addr} {fd : FuncData}
theorem ok_manyW (F : FnP K "how_many" sMany f fd) : FnOk P w K mg base CX0 1 f fd ["counts"] (spManyW K) := by
  have nd := scMany.nd
  refine F.ok scMany (fun vs H Q E h => ?_) (fun cdv A outer s H vs Q E hr h => ⟨_, PSs.nox (pss_cons (ps_set (i := 1) nd rfl (.inl rfl) pe_int)
  (pss_cons (ps_for PassesOwn.never rfl (Hs.pi_seq (pv 0)) (pg_name (i := 2) nd rfl (.inl rfl)) (pss_one (ps_aug (i := 1) nd rfl (.inl rfl) (pv 2) Hs.ip_mul)))
  (pss_one (ps_ret (pv 1))))), ?_⟩)
  · obtain ⟨a, cs, rfl, _⟩ := h
    rfl
  · obtain ⟨a, cs, rfl, hS, hC, k⟩ := h
    refine q_asg ev_c fun H1 e1 => ?_
    refine q_forQ (ev_var rfl) (hS.ext e1) (fun i σ' H' => Ex H1 H' ∧ ∃ v2, σ' = [some (.ref a), some (.int (PR (cs.take i).reverse)), v2]) (fun H2 e2 => ⟨e2, none, rfl⟩) (fun i σ' H' p => p.1) (fun i x σ' H' hx p => ?_) (fun σ' H' p => ?_)
    · obtain ⟨e2, v2, rfl⟩ := p
      obtain ⟨c, rfl, hc⟩ := iv_at hx
      obtain ⟨c1, c2⟩ := hC.2 c (List.mem_of_getElem? hc)
      refine ⟨_, rfl, _, rfl, _, _, rfl, rfl, mul64 (PR_64 (hC.take i)) (by omega), ?_⟩
      refine ⟨e2, some (.int c), ?_⟩
      rw [take_rev hc]
      rfl
    · obtain ⟨e2, v2, rfl⟩ := p
      rw [List.length_map, List.take_length]
      exact s_ret (ev_var rfl) fun H3 e3 => k H3 ((e1.trans e2).trans e3)
end
/-! ### what is put, open lamps too; why it is refused -/
instance (ns : List Int) : Decidable (InFar ns) := by unfold InFar; infer_instance
instance (m : Int) (ns : List Int) : Decidable (InLit m ns) := by unfold InLit; infer_instance
def badC (c : Chc) : Option Str := if InFar [c.1, c.2.1] then (if InLit 1000000 [c.2.2.1, c.2.2.2.1, c.2.2.2.2] then none else some "badlight") else some "badplace"
def badCs (cs : List Chc) : Option Str := cs.findSome? badC
theorem badCs_split {cs : List Chc} {i : Nat} {c : Chc} (hc : cs[i]? = some c) : cs = cs.take i ++ c :: cs.drop (i + 1) := by
  obtain ⟨hi, e⟩ := List.getElem?_eq_some_iff.mp hc
  rw [← e, ← List.drop_eq_getElem_cons hi, List.take_append_drop]
theorem badCs_at {cs : List Chc} {i : Nat} {c : Chc} {w : Str} (h : badCs (cs.take i) = none) (hc : cs[i]? = some c) (hb : badC c = some w) : badCs cs = some w := by
  rw [badCs_split hc]
  unfold badCs at h ⊢
  rw [List.findSome?_append, h, List.findSome?_cons, hb] <;> rfl
theorem badCs_next {cs : List Chc} {i : Nat} {c : Chc} (h : badCs (cs.take i) = none) (hc : cs[i]? = some c) (hb : badC c = none) : badCs (cs.take (i + 1)) = none := by
  rw [List.take_add_one, hc]
  unfold badCs at h ⊢
  rw [List.findSome?_append, h]
  show List.findSome? badC [c] = none
  rw [List.findSome?_cons, hb] <;> rfl
theorem badC_none {c : Chc} (h : badC c = none) : InFar [c.1, c.2.1] ∧ InLit 1000000 [c.2.2.1, c.2.2.2.1, c.2.2.2.2] := by
  unfold badC at h
  split at h
  · split at h
    · exact ⟨‹_›, ‹_›⟩
    · cases h
  · cases h
inductive DeedU
  | one (D : Deed)
  | uns (cs : List Chc)
/-- choices that stand as raw tuples at ch -/
def ChcsR (H : Hp) (ch : Addr) (cs : List Chc) : Prop := ∃ ps : List Addr, H ch = some (.tup (ps.map V.ref)) ∧ ps.length = cs.length ∧ ∀ (i : Nat) (p : Addr) (c : Chc), ps[i]? = some p → cs[i]? = some c → H p = some (.tup (chv c))
theorem ChcsR.kp {H H' : Hp} {ch : Addr} {cs : List Chc} (h : ChcsR H ch cs) (e : Kp H H') : ChcsR H' ch cs := let ⟨ps, h1, h2, h3⟩ := h; ⟨ps, e.tup h1, h2, fun i p c a b => e.tup (h3 i p c a b)⟩
theorem ChcsR.ext {H H' : Hp} {ch : Addr} {cs : List Chc} (h : ChcsR H ch cs) (e : Ex H H') : ChcsR H' ch cs := h.kp (Kp.of e)
def DeedU.At (K : PySem.W.Frag) (H : Hp) (d : Addr) : DeedU → Prop
  | .one D => SqT K H d D.vals
  | .uns cs => ∃ ch, SqT K H d [.str "unsure", .ref ch] ∧ ChcsR H ch cs
theorem DeedU.At.kp {K : PySem.W.Frag} {H H' : Hp} {d : Addr} {D : DeedU} (h : D.At K H d) (e : Kp H H') : D.At K H' d := by
  cases D with
  | one D => exact e.sqt h
  | uns cs => exact let ⟨ch, a, b⟩ := h; ⟨ch, e.sqt a, b.kp e⟩
def cntsS (S : Stt) : List Int := cnts (nOn (S.fl.lamps.map (·.2)))
def badD (S : Stt) : Deed → Option Str
  | .lamp c => match badC c with
    | some w => some w
    | none => if 12 ≤ S.fl.lamps.length then some "full" else none
  | .post B => if ¬ InFar [B.left, B.low, B.right, B.high] then some "badplace" else if ¬ (B.left ≤ B.right ∧ B.low ≤ B.high) then some "badblock" else if 12 ≤ S.fl.posts.length then some "full" else none
  | .pane a b z => if ¬ (InFar [a.1, a.2] ∧ InFar [b.1, b.2]) then some "badplace" else if a = b then some "badpiece" else if good z = false then some "badsift" else if 12 ≤ S.fl.panes.length then some "full" else none
def badU (S : Stt) : DeedU → Option Str
  | .one D => badD S D
  | .uns cs => if cs.length < 2 ∨ 6 < cs.length ∨ ¬ cs.Nodup then some "badmenu" else match badCs cs with
    | some w => some w
    | none => if 200 < PR (cntsS S).reverse * cs.length ∨ 12 ≤ S.fl.lamps.length then some "full" else none
def Stt.putU (S : Stt) : DeedU → Stt
  | .one D => S.put D
  | .uns cs => { S with fl := { S.fl with lamps := S.fl.lamps ++ [(S.cl, (cs, true))] }, cl := S.cl + 1 }
def DeedU.num (S : Stt) : DeedU → Int
  | .one D => D.num S
  | .uns _ => S.cl
theorem chv_inj {c d : Chc} (h : [c.1, c.2.1, c.2.2.1, c.2.2.2.1, c.2.2.2.2] = [d.1, d.2.1, d.2.2.1, d.2.2.2.1, d.2.2.2.2]) : c = d := by
  obtain ⟨a, b, x, y, z⟩ := c
  obtain ⟨a', b', x', y', z'⟩ := d
  simp only [List.cons.injEq, and_true] at h
  obtain ⟨rfl, rfl, rfl, rfl, rfl⟩ := h
  rfl
def chI (c : Chc) : List Int := [c.1, c.2.1, c.2.2.1, c.2.2.2.1, c.2.2.2.2]
theorem chI_nd {cs : List Chc} : (cs.map chI).Nodup ↔ cs.Nodup := by
  induction cs with
  | nil => simp
  | cons c cs ih =>
    rw [List.map_cons, List.nodup_cons, List.nodup_cons, ih]
    refine and_congr_left fun _ => not_congr ⟨fun h => ?_, fun h => List.mem_map.mpr ⟨c, h, rfl⟩⟩
    obtain ⟨d, hd, e⟩ := List.mem_map.mp h
    rw [← chv_inj (c := d) (d := c) e]
    exact hd
def spDoUns (K : PySem.W.Frag) (n : Nat) (W : Str → Addr) : Sp := fun vs H Q E => ∃ (s ch : Addr) (S : Stt) (cs : List Chc), vs = [.ref s, .ref ch] ∧ SttA K n H s S ∧ ChcsR H ch cs ∧ cs.length ≤ 60 ∧ CntW (cntsS S) ∧ (∀ z ∈ nOn (S.fl.lamps.map (·.2)), z.1 ≤ 1000) ∧
  (∀ wd, badU S (.uns cs) = some wd → Flies (W wd) wd H E) ∧ (badU S (.uns cs) = none → ∀ (r s' : Addr) (H' : Hp), Ex H H' → H' r = some (.tup [.ref s', .int S.cl]) → SttA K n H' s' (S.putU (.uns cs)) → Q (.ref r) H')
end Hs
namespace Hs
open PySem PySem.Spec PyProof.Rows L2 Evl
theorem ev_lenTu {K : PySem.W.Frag} {ta : TE} {σ : L2.St} {H : Hp} {p : Addr} {xs : List V} (ha : Ev ta σ H (.ref p)) (h : SqT K H p xs) : Ev (tCB (rLenS K) (tCons ta tNil)) σ H (.int (xs.length : Int)) := fun H1 e Q q =>
  ha H1 e _ fun H2 e2 => ⟨p, xs, rfl, .inr (ex_t (e.trans e2) h), q H2 e2⟩
/-- choices with their places -/
theorem zip_chI {ps : List Addr} {cs : List Chc} (hl : ps.length = cs.length) : ((ps.zip (cs.map chI)).map fun p => V.ref p.1) = ps.map V.ref ∧ (ps.zip (cs.map chI)).map (·.2) = cs.map chI := by
  have e : ps.length = (cs.map chI).length := by rw [List.length_map]; exact hl
  refine ⟨?_, List.map_snd_zip (by omega)⟩
  rw [show (fun p : Addr × List Int => V.ref p.1) = V.ref ∘ Prod.fst from rfl, ← List.map_map, List.map_fst_zip (by omega)]
theorem zip_at {ps : List Addr} {cs : List Chc} {p : Addr × List Int} (h : p ∈ ps.zip (cs.map chI)) : ∃ (i : Nat) (c : Chc), ps[i]? = some p.1 ∧ cs[i]? = some c ∧ p.2 = chI c := by
  obtain ⟨i, hi⟩ := List.mem_iff_getElem?.mp h
  rw [List.getElem?_zip_eq_some] at hi
  obtain ⟨h1, h2⟩ := hi
  rw [List.getElem?_map] at h2
  obtain ⟨c, hc, e⟩ := Option.map_eq_some_iff.mp h2
  exact ⟨i, c, h1, hc, e.symm⟩
theorem lamps_A {H : Hp} {ts : List (Key × V)} {xs : List (Int × LT)} (h : TabA (LampV H) ts xs) : LampsA H ts (nOn (xs.map (·.2))) := by
  refine ⟨by rw [nOn_len, List.length_map]; exact h.1, fun i k v m on h1 h2 => ?_⟩
  unfold nOn at h2
  rw [List.getElem?_map, List.getElem?_map] at h2
  cases hx : xs[i]? with
  | none =>
    rw [hx] at h2
    cases h2
  | some x =>
    rw [hx] at h2
    cases h2
    obtain ⟨_, th, rfl, ch, ps, g1, g2, g3, _⟩ := h.2 i k v x h1 hx
    exact ⟨th, ch, ps.map V.ref, rfl, g1, g2, by rw [List.length_map]; exact g3⟩
theorem badU_uns (S : Stt) (cs : List Chc) : badU S (.uns cs) = (if cs.length < 2 ∨ 6 < cs.length ∨ ¬ cs.Nodup then some ("badmenu" : Str) else match badCs cs with
    | some w => some w
    | none => if 200 < PR (cntsS S).reverse * cs.length ∨ 12 ≤ S.fl.lamps.length then some ("full" : Str) else none : Option Str) := rfl
section
variable {P : Program} {w : World} {K : PySem.W.Frag} {mg : Str → Option Value} {base : Heap} {f C : Addr} {fd : FuncData} {n : Nat} {W : Str → Addr}
abbrev sDoUns : Stmt := top 82
theorem scDoUns : FnScope ["state", "choices", "choice", "lamps"] ["state", "choices"] (defScope sDoUns) := ⟨rfl, rfl, rfl, by decide +kernel, rfl, by decide +kernel, by decide +kernel⟩
theorem ok_doUns (F : FnP K "do_unsure" sDoUns f fd) (O_check_place : OwnX P w K mg base 3 "check_place" ["place"] [] (spPlace K (W "badplace"))) (O_check_light : OwnX P w K mg base 3 "check_light" ["light", "most"] [] (spLightC K (W "badlight"))) (O_how_many : Own P w K mg base 1 "how_many" ["counts"] (spManyW K)) (O_counts_of : Own P w K mg base 1 "counts_of" ["lamps"] (spCounts K)) (O_put : OwnX P w K mg base 4 "put" ["state", "sort", "thing"] [] (spPut K (W "full"))) (Er_BadMenu : ErrF P w K mg base 1 "BadMenu" (W "badmenu") "badmenu") (Er_Full : ErrF P w K mg base 1 "Full" (W "full") "full") (g_len : mg "len" = none) (g_set : mg "set" = none) (g_BRIGHT : ∃ u, mg "BRIGHT" = some u ∧ RelV (.int 1000000) u) (g_MOST_SETTINGS : ∃ u, mg "MOST_SETTINGS" = some u ∧ RelV (.int 200) u) : FnOk P w K mg base (L2.CX P w) 5 f fd ["state", "choices"] (spDoUns K n W) := by
  have nd := scDoUns.nd
  obtain ⟨uM, g_BRIGHT⟩ := g_BRIGHT
  obtain ⟨uS, g_MOST_SETTINGS⟩ := g_MOST_SETTINGS
  refine F.ok scDoUns (fun vs H Q E h => ?_) (fun cdv A outer s H vs Q E hr h => ⟨_, (pss_cons (ps_if (PW.pt (pw_or (pt_cmpR op_lt (pe_callB (r := Evl.rLenS K) call_len_seq (by rfl) g_len PySem.boot_len (pa_cons (pv 1) pa_nil)) pe_int (nomark _)) (pw_or (pt_cmpR op_gt (pe_callB (r := Evl.rLenS K) call_len_seq (by rfl) g_len PySem.boot_len (pa_cons (pv 1) pa_nil)) pe_int (nomark _)) (pw_or1 (pt_cmpR op_lt (pe_callB (r := Hs.rLenT K P w) Hs.cr_lenT (by rfl) g_len PySem.boot_len (pa_cons (pe_callTy (r := Hs.rSetT K P w) (Hs.cr_setT rfl (Hs.un64 hr)) (by rfl) g_set (by decide +kernel) (pa_cons (pv 1) pa_nil)) pa_nil)) (pe_callB (r := Evl.rLenS K) call_len_seq (by rfl) g_len PySem.boot_len (pa_cons (pv 1) pa_nil)) (nomark _)))))) (pss_one (ps_raise rfl (takes_of rfl rfl rfl rfl) (Hs.pmk_err Er_BadMenu hr (by decide) (by rfl)))) pss_nil)
  (pss_cons (ps_for (passes_of rfl) rfl (pi_tup (pv 1)) (pg_name (i := 2) nd rfl (.inl rfl)) (pss_cons (ps_expr (Hs.pe_ownT O_check_place hr (by decide) (by rfl) (passes_call (takes_of rfl rfl rfl rfl) (fun _ _ _ _ h => h)) (pa_cons (pe_slice (r := rSlT K) sl_tup (pv 2) po_none (po_some pe_int)) pa_nil)))
  (pss_one (ps_expr (Hs.pe_ownT O_check_light hr (by decide) (by rfl) (passes_call (takes_of rfl rfl rfl rfl) (fun _ _ _ _ h => h)) (pa_cons (pe_slice (r := rSlT K) sl_tup (pv 2) (po_some pe_int) po_none) (pa_cons (pe_glob (by rfl) g_BRIGHT.1 g_BRIGHT.2) pa_nil)))))))
  (pss_cons (ps_set (i := 3) nd rfl (.inl rfl) (pe_dget (Hs.un1 hr) (pe_ix (r := rIxT K) ix_tup (pv 0) pe_int (fun _ _ => rfl)) pe_str (fun _ _ => rfl)))
  (pss_cons (ps_if (pt_cmpR op_gt (pe_op op_mulW (Hs.pe_own O_how_many hr (by first | decide | omega) (by rfl) (pa_cons (Hs.pe_own O_counts_of hr (by first | decide | omega) (by rfl) (pa_cons (pv 3) pa_nil)) pa_nil)) (pe_callB (r := Evl.rLenS K) call_len_seq (by rfl) g_len PySem.boot_len (pa_cons (pv 1) pa_nil))) (pe_glob (by rfl) g_MOST_SETTINGS.1 g_MOST_SETTINGS.2) (nomark _)) (pss_one (ps_raise rfl (takes_of rfl rfl rfl rfl) (Hs.pmk_err Er_Full hr (by decide) (by rfl)))) pss_nil)
  (pss_one (ps_ret (Hs.pe_ownT O_put hr (by decide) (by rfl) (passes_call (takes_of rfl rfl rfl rfl) (fun _ _ _ _ h => h)) (pa_cons (pv 0) (pa_cons pe_str (pa_cons (pe_tup (pa_cons (pv 1) (pa_cons pe_bl pa_nil))) pa_nil)))))))))), ?_⟩)
  · obtain ⟨s, ch, S, cs, rfl, _⟩ := h
    rfl
  · obtain ⟨s, ch, S, cs, rfl, hS, ⟨ps, hch, hpl, hps⟩, hz, hC, hsm, kE, k⟩ := h
    obtain ⟨fl, lk, cm, tl, g1, hF, g3, g4, g5⟩ := hS.ex
    obtain ⟨b, q2, q3, t1, t2, t3, f1, f2, f3, f4, f5, f6, f7⟩ := hF.ex
    obtain ⟨w1, w2, w3, w4⟩ := hS.few
    obtain ⟨z1, z2⟩ := zip_chI hpl
    have hl : ((ps.map V.ref).length : Int) = (cs.length : Int) := by rw [List.length_map, hpl]
    have hlen : ∀ {σ : L2.St} {H1 : Hp}, σ[1]? = some (some (.ref ch)) → Ex H H1 → Ev (tCB (rLenS K) (tCons (tVar 1) tNil)) σ H1 (.int (cs.length : Int)) := fun hs e => by
      have z := ev_lenTu (K := K) (ev_var hs) (st_of (e _ _ hch))
      rwa [hl] at z
    have hset : Ev (tCB (rLenT K P w) (tCons (tCB (rSetT K P w) (tCons (tVar 1) tNil)) tNil)) [some (.ref s), some (.ref ch), none, none] H (.int ((unlike (cs.map chI)).length : Nat)) := by
      have z := ev_lenset (K := K) (P := P) (w := w) (σ := [some (.ref s), some (.ref ch), none, none]) (H := H) (l := ch) (ks := ps.zip (cs.map chI)) (te := tVar 1) (ev_var rfl) (.inr (by rw [z1]; exact st_of hch)) (fun p hp => by
        obtain ⟨i, c, a1, a2, a3⟩ := zip_at hp
        rw [a3]
        exact st_of (hps i p.1 c a1 a2)) (by rw [List.length_zip, List.length_map]; omega)
      rwa [z2] at z
    refine q_when (b := decide (cs.length < 2 ∨ 6 < cs.length ∨ ¬ cs.Nodup)) (et_is (et_or (et_test (ev_op (hlen rfl (Ex.refl _)) ev_c rv_I0)) fun _ => et_or (et_test (ev_op (hlen rfl (Ex.refl _)) ev_c rv_I0)) fun _ => et_test (ev_op hset (hlen rfl (Ex.refl _)) rv_I0)) ?_) (fun ht H1 e1 => ?_) (fun ht H1 e1 => ?_)
    · by_cases hn : cs.Nodup
      · have e := unlike_eq (chI_nd.mpr hn)
        rw [e, List.length_map, Bool.eq_iff_iff]
        simp [hn]
        omega
      · have e := unlike_lt (fun z => hn (chI_nd.mp z))
        rw [List.length_map] at e
        rw [Bool.eq_iff_iff]
        simp [hn]
        omega
    · exact (kE _ (by rw [badU_uns, if_pos (of_decide_eq_true ht)])).ext e1
    · have hm := of_decide_eq_false ht
      refine q_forT (ev_var rfl) (st_of (e1 _ _ hch)) (fun i σ' H' => Ex H H' ∧ badCs (cs.take i) = none ∧ ∃ v2, σ' = [some (.ref s), some (.ref ch), v2, none]) (fun H2 e2 => ⟨e1.trans e2, by rw [List.take_zero] <;> rfl, none, rfl⟩) (fun i σ' H' _ p => st_of (p.1 _ _ hch)) (fun i x σ' H' hx p => ?_) (fun σ' H' p => ?_)
      · obtain ⟨e, hb, v2, rfl⟩ := p
        rw [List.getElem?_map] at hx
        obtain ⟨pc, hpc, rfl⟩ := Option.map_eq_some_iff.mp hx
        have hi : i < ps.length := (List.getElem?_eq_some_iff.mp hpc).1
        obtain ⟨c, hc⟩ : ∃ c, cs[i]? = some c := ⟨_, List.getElem?_eq_getElem (by omega)⟩
        have hp := hps i pc c hpc hc
        have fly : ∀ wd, badC c = some wd → Flies (W wd) wd H E := fun wd hw => kE wd (by rw [badU_uns, if_neg hm, badCs_at hb hc hw])
        dsimp only [gName, List.set]
        refine (eu_sl (K := K) (xs := chv c) (lo := none) (hi := some 2) (ev_var rfl) eo_none (eo_some ev_c) (st_of (e _ _ hp)) (fun z => nomatch (show (2 : Nat) = 5 from z.2))) H' (Ex.refl _) _ fun p6 H6 np6 e6 h6 => ?_
        refine ⟨p6, [c.1, c.2.1], rfl, st_of h6, by simp, by simp, fun hF => (fly "badplace" (by unfold badC; rw [if_neg hF])).ext (e.trans e6), fun hF H7 e7 => ?_⟩
        have e07 := (e.trans e6).trans e7
        refine (eu_sl (K := K) (xs := chv c) (lo := some 2) (hi := none) (ev_var rfl) (eo_some ev_c) eo_none (st_of (e07 _ _ hp)) (fun z => nomatch (show (2 : Nat) = 0 from z.1))) H7 (Ex.refl _) _ fun p8 H8 np8 e8 h8 => ?_
        refine ⟨p8, 1000000, [c.2.2.1, c.2.2.2.1, c.2.2.2.2], rfl, st_of h8, by simp, fun hL => (fly "badlight" (by unfold badC; rw [if_pos hF, if_neg hL])).ext (e07.trans e8), fun hL H9 e9 => ?_⟩
        exact ⟨(e07.trans e8).trans e9, badCs_next hb hc (by unfold badC; rw [if_pos hF, if_pos hL]), _, rfl⟩
      · obtain ⟨e, hb, v2, rfl⟩ := p
        rw [List.length_map, hpl, List.take_length] at hb
        have at0 : atI [V.ref fl, .ref lk, .ref cm] 0 = some (.ref fl) := rfl
        have hC2 := lamps_A f5
        refine ⟨_, rfl, s, _, 0, _, rfl, rfl, ex_t e g1, at0, fl, _, rfl, (f1.ext e).get (k := .inr "lamp"), ?_⟩
        dsimp only [gName, List.set]
        have hU : badU S (.uns cs) = (if 200 < PR (cntsS S).reverse * cs.length ∨ 12 ≤ S.fl.lamps.length then some ("full" : Str) else none : Option Str) := by rw [badU_uns, if_neg hm, hb]
        have hc1 := nOn_len (ls := S.fl.lamps.map (·.2))
        refine q_when (b := decide (200 < PR (cntsS S).reverse * cs.length)) (fun H2 e2 Q' q' => ?_) (fun ht2 H2 e2 => ?_) (fun ht2 H2 e2 => ?_)
        · have e02 := e.trans e2
          refine ⟨_, rfl, b, t1, _, rfl, f2.ext e02, (lamps_A f5).ext e02, by rw [f5.1]; omega, hsm, fun pc H3 np3 e3 hp3 => ?_⟩
          refine ⟨pc, cntsS S, rfl, .inl (sq_of hp3), hC, fun H4 e4 => ?_⟩
          have z := hlen (σ := [some (.ref s), some (.ref ch), v2, some (.ref b)]) rfl ((e02.trans e3).trans e4)
          refine z H4 (Ex.refl _) _ fun H5 e5 => ⟨_, _, rfl, rfl, mul64 (PR_64 hC.rev) (by omega), _, _, rfl, rfl, _, rfl, q' H5 ((e3.trans e4).trans e5)⟩
        · exact (kE "full" (by rw [hU, if_pos (.inl (of_decide_eq_true ht2))])).ext (e.trans e2)
        · have e02 := e.trans e2
          have n200 := of_decide_eq_false ht2
          refine ⟨_, rfl, _, rfl, sz_of (by simp), fun th hth => ?_⟩
          have x3 := Ex.new (o := .tup [V.ref ch, .bl true]) hth
          have e03 := e02.trans x3
          refine ⟨s, fl, lk, cm, b, bareV b q2 q3, tl, _, t1, "lamp", S.cl, .ref th, rfl, ⟨ex_t e03 g1, f1.ext e03, g3.ext e03, g5.ext e03⟩, rfl, f2.ext e03, rfl, (show 3 ≤ 10000 by decide), by rw [f5.1]; omega, (show 4 ≤ 10000 by decide), fun z => (kE "full" (by rw [hU, if_pos (.inr (by rw [← f5.1]; exact z))])).ext e03, fun z r s' fl' q' cm' H4 e4 hr' hSt hq' => ?_⟩
          have hnn : ¬ (200 < PR (cntsS S).reverse * cs.length ∨ 12 ≤ S.fl.lamps.length) := fun q => q.elim n200 fun q => by
            rw [f5.1] at z
            omega
          have e04 := e03.trans e4
          have kp := Kp.of e04
          have hlt : S.fl.lamps.length < 12 := by
            rw [f5.1] at z
            exact z
          refine k (by rw [hU, if_neg hnn]) r s' H4 e04 hr' ⟨⟨fl', lk, cm', tl, hSt.t, ⟨q', q2, q3, _, t2, t3, hSt.f, hq', f3.ext e04, f4.ext e04, ?_, f6.mono fun _ _ => kp.figv, f7.mono fun _ _ => kp.figv⟩, hSt.l, g4.mono fun _ _ => kp.lookV, hSt.c⟩, hS.ul.snoc, hS.up, hS.un, hS.uk, ⟨by show (S.fl.lamps ++ [_]).length ≤ 12; rw [List.length_append]; exact hlt, w2, w3, w4⟩⟩
          exact (f5.mono fun _ _ => kp.lampV).put hS.ul ⟨th, rfl, ch, ps, e4 _ _ upd_same, e04 _ _ hch, hpl, fun i p c a1 a2 => e04 _ _ (hps i p c a1 a2)⟩
end
end Hs
namespace Hs
open PySem PySem.Spec PyProof.Rows L2 Evl
/-! ### a house to which a thing is put, or that refuses it -/
structure OkC (S : Stt) : Prop where
  c : CntW (cntsS S)
  s : ∀ z ∈ nOn (S.fl.lamps.map (·.2)), z.1 ≤ 1000
def DeedU.fit : DeedU → Prop
  | .one _ => True
  | .uns cs => cs.length ≤ 60
theorem abs_far {ns : List Int} (h : InFar ns) {x : Int} (hx : x ∈ ns) : x.natAbs ≤ 1000000 := by
  have := h x hx
  unfold absI at this
  split at this <;> omega
theorem bd_far {ns : List Int} (h : InFar ns) {x : Int} (hx : x ∈ ns) : Bd 20 x := bd20 (abs_far h hx)
section
variable {S : Stt}
theorem bad_l1 {c : Chc} (h : ¬ InFar [c.1, c.2.1]) : badD S (.lamp c) = some ("badplace" : Str) := by
  show (match badC c with | some w => some w | none => if 12 ≤ S.fl.lamps.length then some ("full" : Str) else none) = _
  rw [show badC c = some ("badplace" : Str) by unfold badC; rw [if_neg h]]
theorem bad_l2 {c : Chc} (h : InFar [c.1, c.2.1]) (h2 : ¬ InLit 1000000 [c.2.2.1, c.2.2.2.1, c.2.2.2.2]) : badD S (.lamp c) = some ("badlight" : Str) := by
  show (match badC c with | some w => some w | none => if 12 ≤ S.fl.lamps.length then some ("full" : Str) else none) = _
  rw [show badC c = some ("badlight" : Str) by unfold badC; rw [if_pos h, if_neg h2]]
theorem bad_l3 {c : Chc} (h : InFar [c.1, c.2.1]) (h2 : InLit 1000000 [c.2.2.1, c.2.2.2.1, c.2.2.2.2]) : badD S (.lamp c) = if 12 ≤ S.fl.lamps.length then some ("full" : Str) else none := by
  show (match badC c with | some w => some w | none => if 12 ≤ S.fl.lamps.length then some ("full" : Str) else none) = _
  rw [show badC c = none by unfold badC; rw [if_pos h, if_pos h2]]
theorem bad_p (B : Blk) : badD S (.post B) = (if ¬ InFar [B.left, B.low, B.right, B.high] then some ("badplace" : Str) else if ¬ (B.left ≤ B.right ∧ B.low ≤ B.high) then some ("badblock" : Str) else if 12 ≤ S.fl.posts.length then some ("full" : Str) else none : Option Str) := rfl
theorem bad_n (a b : Pt) (z : Str) : badD S (.pane a b z) = (if ¬ (InFar [a.1, a.2] ∧ InFar [b.1, b.2]) then some ("badplace" : Str) else if a = b then some ("badpiece" : Str) else if good z = false then some ("badsift" : Str) else if 12 ≤ S.fl.panes.length then some ("full" : Str) else none : Option Str) := rfl
end
def spPutR (K : PySem.W.Frag) (C : Addr) (W : Str → Addr) : Sp := fun vs H Q E => ∃ (h d dx p q : Addr) (m : Nat) (S : Stt) (D : DeedU), vs = [.ref h, .ref d] ∧ D.At K H d ∧ D.fit ∧ OkC S ∧ HsX K C 20 H h dx p q m S ∧ m ≤ 500 ∧ (∀ wd, badU S D = some wd → Flies (W wd) wd H E) ∧ (badU S D = none → After K C 20 H h dx p q m (S.putU D) (.int (D.num S)) Q)
theorem do_putR {K : PySem.W.Frag} {C dF dD : Addr} {W : Str → Addr} {S0 : Addr → Option Sp} (DL : DoerA K dF dD S0 "lamp" "nnnnn" (spDoLamp K (W "badplace") (W "badlight") (W "full"))) (DP : DoerA K dF dD S0 "post" "nnnn" (spDoPost K (W "badplace") (W "badblock") (W "full"))) (DN : DoerA K dF dD S0 "pane" "nnnns" (spDoPane K (W "badplace") (W "badpiece") (W "badsift") (W "full"))) (DU : DoerA K dF dD S0 "unsure" "c" (spDoUns K 20 W)) (vs : List V) (H : Hp) (Q : VK) (E : XK) (hs : spPutR K C W vs H Q E) : spDo C (spApplied K dF dD S0) vs H Q E := by
  obtain ⟨h, d, dx, p, q, m, S, D, rfl, hd, hfit, hok, a, hm, kE, k⟩ := hs
  obtain ⟨s, ps, qs, h1, h2, h3, h4, h5, h6, hS⟩ := a.ex
  refine ⟨h, d, dx, s, p, q, fldsH s p q, ps, qs, rfl, h1, rfl, rfl, rfl, h2, h4, h6, by omega, (show 4 < 1000 by decide), fun Q' kk => ?_⟩
  cases D with
  | uns cs =>
    obtain ⟨tk, f, d1, d2, d3⟩ := DU.ex
    obtain ⟨ch, hd, hch⟩ := hd
    refine ⟨s, d, f, "unsure", "c", tk, [.ref ch], _, rfl, hd, d1, rfl, (show 1 ≤ 100 by decide), d2, d3, fun H2 e2 => ?_⟩
    exact ⟨s, ch, S, cs, rfl, hS.ext e2, hch.ext e2, hfit, hok.c, hok.s, fun wd hw => (kE wd hw).ext e2, fun hn r s' H3 e3 hr hS3 => kk r (.ref s') _ H3 hr ((e2.trans e3) _ _ h1) ((e2.trans e3) _ _ h2) ((e2.trans e3) _ _ h4) (after_fin (S' := S.putU (.uns cs)) h1 h2 h3 h4 h6 (e2.trans e3) hS3 (k hn))⟩
  | one D =>
    obtain ⟨fl, lk, cm, tl, g1, hF, g3, g4, g5⟩ := hS.ex
    obtain ⟨b, q2, q3, t1, t2, t3, f1, f2, f3, f4, f5, f6, f7⟩ := hF.ex
    obtain ⟨w1, w2, w3, w4⟩ := hS.few
    have hst : StA K H s fl lk cm (bareV b q2 q3) tl (comC S.cl S.cp S.cn S.ck) := ⟨g1, f1, g3, g5⟩
    replace hd : SqT K H d D.vals := hd
    replace kE : ∀ wd, badD S D = some wd → Flies (W wd) wd H E := kE
    replace k : badD S D = none → After K C 20 H h dx p q m (S.put D) (.int (D.num S)) Q := k
    cases D with
    | lamp c =>
      obtain ⟨tk, f, d1, d2, d3⟩ := DL.ex
      refine ⟨s, d, f, "lamp", "nnnnn", tk, chv c, _, rfl, hd, d1, rfl, (show 5 ≤ 100 by decide), d2, d3, fun H2 e2 => ?_⟩
      refine ⟨s, fl, lk, cm, b, bareV b q2 q3, tl, _, t1, S.cl, c.1, c.2.1, c.2.2.1, c.2.2.2.1, c.2.2.2.2, rfl, hst.ext e2, rfl, f2.ext e2, rfl, (show 3 ≤ 10000 by decide), by rw [f5.1]; omega, (show 4 ≤ 10000 by decide), fun z => (kE _ (bad_l1 z)).ext e2, fun i z => (kE _ (bad_l2 i z)).ext e2, fun i j z => (kE "full" (by rw [bad_l3 i j, if_pos (by rw [← f5.1]; exact z)])).ext e2, fun i j z th H3 e3 hth r' s' fl' q' cm' H4 e4 hr' hSt hq' => ?_⟩
      have hr : S.fl.lamps.length < 12 := by rw [← f5.1]; exact z
      have e04 := (e2.trans e3).trans e4
      have kp := Kp.of e04
      refine kk r' (.ref s') _ H4 hr' (e04 _ _ h1) (e04 _ _ h2) (e04 _ _ h4) (after_fin (S' := S.put (.lamp c)) h1 h2 h3 h4 h6 e04 ⟨⟨fl', lk, cm', tl, hSt.t, ⟨q', q2, q3, _, t2, t3, hSt.f, hq', f3.ext e04, f4.ext e04, ?_, f6.mono fun _ _ => kp.figv, f7.mono fun _ _ => kp.figv⟩, g3.ext e04, g4.mono fun _ _ => kp.lookV, hSt.c⟩, hS.ul.snoc, hS.up, hS.un, hS.uk, ⟨by show (S.fl.lamps ++ [_]).length ≤ 12; rw [List.length_append]; exact hr, w2, w3, w4⟩⟩ (k (by rw [bad_l3 i j, if_neg (by omega)])))
      exact (f5.mono fun _ _ => kp.lampV).put hS.ul ⟨th, rfl, hth.g.keep fun _ _ z => e4 _ _ z⟩
    | post B =>
      obtain ⟨tk, f, d1, d2, d3⟩ := DP.ex
      refine ⟨s, d, f, "post", "nnnn", tk, iv [B.left, B.low, B.right, B.high], _, rfl, hd, d1, rfl, (show 4 ≤ 100 by decide), d2, d3, fun H2 e2 => ?_⟩
      refine ⟨s, fl, lk, cm, q2, bareV b q2 q3, tl, _, t2, S.cp, B.left, B.low, B.right, B.high, rfl, hst.ext e2, rfl, f3.ext e2, rfl, (show 3 ≤ 10000 by decide), by rw [f6.1]; omega, (show 4 ≤ 10000 by decide), fun z => (kE "badplace" (by rw [bad_p, if_pos z])).ext e2, fun i z => (kE "badblock" (by rw [bad_p, if_neg (fun n => n i), if_pos z])).ext e2, fun i j z => (kE "full" (by rw [bad_p, if_neg (fun n => n i), if_neg (fun n => n j), if_pos (by rw [← f6.1]; exact z)])).ext e2, fun i j z th H3 e3 hth r' s' fl' q' cm' H4 e4 hr' hSt hq' => ?_⟩
      have hr : S.fl.posts.length < 12 := by rw [← f6.1]; exact z
      have e04 := (e2.trans e3).trans e4
      have kp := Kp.of e04
      refine kk r' (.ref s') _ H4 hr' (e04 _ _ h1) (e04 _ _ h2) (e04 _ _ h4) (after_fin (S' := S.put (.post B)) h1 h2 h3 h4 h6 e04 ⟨⟨fl', lk, cm', tl, hSt.t, ⟨b, q', q3, t1, _, t3, hSt.f, f2.ext e04, hq', f4.ext e04, f5.mono fun _ _ => kp.lampV, ?_, f7.mono fun _ _ => kp.figv⟩, g3.ext e04, g4.mono fun _ _ => kp.lookV, hSt.c⟩, hS.ul, hS.up.snoc, hS.un, hS.uk, ⟨w1, by show (S.fl.posts ++ [_]).length ≤ 12; rw [List.length_append]; exact hr, w3, w4⟩⟩ (k (by rw [bad_p, if_neg (fun n => n i), if_neg (fun n => n j), if_neg (by omega)])))
      exact (f6.mono fun _ _ => kp.figv).put hS.up ⟨th, rfl, st_of (e4 _ _ hth), bd_far i (by simp), bd_far i (by simp), bd_far i (by simp), bd_far i (by simp)⟩
    | pane x y z0 =>
      obtain ⟨tk, f, d1, d2, d3⟩ := DN.ex
      have ne : ¬ (x.1 = y.1 ∧ x.2 = y.2) → ¬ x = y := fun n e => n (by rw [e]; exact ⟨rfl, rfl⟩)
      refine ⟨s, d, f, "pane", "nnnns", tk, [.int x.1, .int x.2, .int y.1, .int y.2, .str z0], _, rfl, hd, d1, rfl, (show 5 ≤ 100 by decide), d2, d3, fun H2 e2 => ?_⟩
      refine ⟨s, fl, lk, cm, q3, bareV b q2 q3, tl, _, t3, S.cn, x.1, x.2, y.1, y.2, z0, rfl, hst.ext e2, rfl, f4.ext e2, rfl, (show 3 ≤ 10000 by decide), by rw [f7.1]; omega, (show 4 ≤ 10000 by decide), fun z => (kE "badplace" (by rw [bad_n, if_pos z])).ext e2, fun i z => (kE "badpiece" (by rw [bad_n, if_neg (fun n => n i), if_pos (Prod.ext z.1 z.2)])).ext e2, fun i j z => (kE "badsift" (by rw [bad_n, if_neg (fun n => n i), if_neg (ne j), if_pos z])).ext e2, fun i j l z => (kE "full" (by rw [bad_n, if_neg (fun n => n i), if_neg (ne j), if_neg (by rw [l]; decide), if_pos (by rw [← f7.1]; exact z)])).ext e2, fun i j l z th H3 e3 hth r' s' fl' q' cm' H4 e4 hr' hSt hq' => ?_⟩
      have hr : S.fl.panes.length < 12 := by rw [← f7.1]; exact z
      have e04 := (e2.trans e3).trans e4
      have kp := Kp.of e04
      refine kk r' (.ref s') _ H4 hr' (e04 _ _ h1) (e04 _ _ h2) (e04 _ _ h4) (after_fin (S' := S.put (.pane x y z0)) h1 h2 h3 h4 h6 e04 ⟨⟨fl', lk, cm', tl, hSt.t, ⟨b, q2, q', t1, t2, _, hSt.f, f2.ext e04, f3.ext e04, hq', f5.mono fun _ _ => kp.lampV, f6.mono fun _ _ => kp.figv, ?_⟩, g3.ext e04, g4.mono fun _ _ => kp.lookV, hSt.c⟩, hS.ul, hS.up, hS.un.snoc, hS.uk, ⟨w1, w2, by show (S.fl.panes ++ [_]).length ≤ 12; rw [List.length_append]; exact hr, w4⟩⟩ (k (by rw [bad_n, if_neg (fun n => n i), if_neg (ne j), if_neg (by rw [l]; decide), if_neg (by omega)])))
      obtain ⟨pc, c1, c2, j1, j2, j3, j4⟩ := hth
      exact (f7.mono fun _ _ => kp.figv).put hS.un ⟨th, pc, rfl, st_of (e4 _ _ j1), c1, c2, st_of (e4 _ _ j2), ⟨st_of (e4 _ _ j3), bd_far i.1 (by simp), bd_far i.1 (by simp)⟩, st_of (e4 _ _ j4), bd_far i.2 (by simp), bd_far i.2 (by simp)⟩
end Hs
namespace Hs
open PySem PySem.Spec PyProof.Rows L2 Evl
section
variable {J : It} {n : Nat} {G : Hp → Prop} {Y : Nat → Hp → V → Hp → Prop}
theorem tyes_of {σ : L2.St} {H : Hp} {Q : Bool → Hp → Prop} (h : Q true H) : tYes σ H Q := h
/-- the second clause of a comprehension of two -/
theorem lc2_in (w : Walk J n G Y) {g : TG} {tt : TT} {te : TE} {vs : List Nat} {σ : L2.St} {H1 : Hp} {D : Addr} {Nx : Hp → Prop} (Pv : Nat → Hp → Prop) (h0 : Pv 0 H1) (hG : ∀ i H, i ≤ n → Pv i H → G H)
    (hs : ∀ i x H H', i < n → Pv i H → Y i H x H' → g x (wipe σ vs) H' fun σ2 H2 => wipe σ2 vs = wipe σ vs ∧ tt σ2 H2 fun b H3 => if b = true then te σ2 H3 fun y H4 => ∃ acc, H4 D = some (.lst acc) ∧ acc.length < sizeLine ∧ Pv (i + 1) (upd H4 D (.lst (acc ++ [y]))) else Pv (i + 1) H3) (hd : ∀ H, Pv n H → Nx H) :
    ∃ W1 : Nat → Nat → Hp → Prop, (∃ m, W1 0 m H1) ∧ ∀ j k H, W1 j k H →
      (J.stop j H ∧ Nx H) ∨ (J.go j H ∧ ∃ Nx1 : Hp → Prop, (∀ H', Nx1 H' → ∃ k', k' < k ∧ W1 (j + 1) k' H') ∧ ∀ x H', J.yld j H x H' → g x (wipe σ vs) H' fun σ3 H5 => wipe σ3 vs = wipe σ vs ∧ tt σ3 H5 fun b H6 =>
        if b = true then te σ3 H6 fun y H7 => ∃ acc, H7 D = some (.lst acc) ∧ acc.length < sizeLine ∧ Nx1 (upd H7 D (.lst (acc ++ [y]))) else Nx1 H6) := by
  refine ⟨fun i m H => m = n - i ∧ i ≤ n ∧ Pv i H, ⟨n, by simp, Nat.zero_le _, h0⟩, ?_⟩
  rintro i m H ⟨rfl, hi, p⟩
  have q := hG i H hi p
  by_cases hlt : i < n
  · exact .inr ⟨w.goes i H hlt q, Pv (i + 1), fun H' p' => ⟨n - (i + 1), by omega, rfl, hlt, p'⟩, fun x H' y => hs i x H H' hlt p (w.yields i H x H' hlt q y)⟩
  · have e : i = n := by omega
    subst e
    exact .inl ⟨w.stops H q, hd H p⟩
/-- its first clause, whose turns end where Pv says -/
theorem lc2_out (w : Walk J n G Y) {H1 : Hp} {B : Nat → V → Hp → (Hp → Prop) → Prop} (Pv : Nat → Hp → Prop) (h0 : Pv 0 H1) (hG : ∀ i H, i ≤ n → Pv i H → G H)
    (hs : ∀ i x H H', i < n → Pv i H → Y i H x H' → B i x H' (Pv (i + 1))) {Qd : Hp → Prop} (hd : ∀ H, Pv n H → Qd H) :
    ∃ W : Nat → Nat → Hp → Prop, (∃ m, W 0 m H1) ∧ ∀ i m H, W i m H → (J.stop i H ∧ Qd H) ∨ (J.go i H ∧ ∃ Nx : Hp → Prop, (∀ H', Nx H' → ∃ m', m' < m ∧ W (i + 1) m' H') ∧ ∀ x H', J.yld i H x H' → B i x H' Nx) := by
  refine ⟨fun i m H => m = n - i ∧ i ≤ n ∧ Pv i H, ⟨n, by simp, Nat.zero_le _, h0⟩, ?_⟩
  rintro i m H ⟨rfl, hi, p⟩
  have q := hG i H hi p
  by_cases hlt : i < n
  · exact .inr ⟨w.goes i H hlt q, Pv (i + 1), fun H' p' => ⟨n - (i + 1), by omega, rfl, hlt, p'⟩, fun x H' y => hs i x H H' hlt p (w.yields i H x H' hlt q y)⟩
  · have e : i = n := by omega
    subst e
    exact .inl ⟨w.stops H q, hd H p⟩
end
/-! ### unsure, coming of no sort, len of a house -/
def spUnsM (K : PySem.W.Frag) (C : Addr) (spD : Sp) : Sp := fun vs H Q E => ∃ (h dx a : Addr) (fs : List (Str × V)) (xs : List V), vs = [.ref h, .ref a] ∧ H h = some (.ins C dx fs) ∧ fs.lookup ("do" : Str) = none ∧ (SqL K H a xs ∨ H a = some (.tup xs)) ∧ ∀ (d ch : Addr) (H' : Hp), Ex H H' → H' ch = some (.tup xs) → H' d = some (.tup [.str "unsure", .ref ch]) → spD [.ref h, .ref d] H' Q E
def spUnsH (K : PySem.W.Frag) (C : Addr) (W : Str → Addr) : Sp := fun vs H Q E => ∃ (h dx p q a : Addr) (m : Nat) (S : Stt) (ps : List Addr) (cs : List Chc), vs = [.ref h, .ref a] ∧ (SqL K H a (ps.map V.ref) ∨ H a = some (.tup (ps.map V.ref))) ∧ ps.length = cs.length ∧ (∀ (i : Nat) (p : Addr) (c : Chc), ps[i]? = some p → cs[i]? = some c → H p = some (.tup (chv c))) ∧ cs.length ≤ 60 ∧ OkC S ∧ HsX K C 20 H h dx p q m S ∧ m ≤ 500 ∧
  (∀ wd, badU S (.uns cs) = some wd → Flies (W wd) wd H E) ∧ (badU S (.uns cs) = none → After K C 20 H h dx p q m (S.putU (.uns cs)) (.int S.cl) Q)
theorem After.ex {K : PySem.W.Frag} {C : Addr} {n : Nat} {H H1 : Hp} {h dx p q : Addr} {m : Nat} {S : Stt} {told : V} {Q : VK} (k : After K C n H h dx p q m S told Q) (e : Ex H H1) : After K C n H1 h dx p q m S told Q := fun H' kt a => k H' (fun x o' hx n1 n2 n3 => kt x o' (e _ _ hx) n1 n2 n3) a
theorem uns_h {K : PySem.W.Frag} {C : Addr} {W : Str → Addr} (vs : List V) (H : Hp) (Q : VK) (E : XK) (hs : spUnsH K C W vs H Q E) : spUnsM K C (spPutR K C W) vs H Q E := by
  obtain ⟨h, dx, p, q, a, m, S, ps, cs, rfl, ha, hpl, hps, hz, hok, aa, hm, kE, k⟩ := hs
  obtain ⟨fs, hh, hf⟩ := aa.ins
  exact ⟨h, dx, a, fs, _, rfl, hh, hf "do" (by decide +kernel), ha, fun d ch H' e hch hd => ⟨h, d, dx, p, q, m, S, .uns cs, rfl, ⟨ch, st_of hd, ps, hch, hpl, fun i p c a b => e _ _ (hps i p c a b)⟩, hz, hok, aa.ext e, hm, fun wd hw => (kE wd hw).ext e, fun hn => (k hn).ex e⟩⟩
def spComingE (K : PySem.W.Frag) (C : Addr) (cS : Addr) : Sp := fun vs H _ E => ∃ (h dx p q : Addr) (m : Nat) (S : Stt) (so : Str), vs = [.ref h, .str so] ∧ HsX K C 20 H h dx p q m S ∧ ¬ (so = "lamp" ∨ so = "post" ∨ so = "pane" ∨ so = "look") ∧ Flies cS "badsort" H E
def spLenH (K : PySem.W.Frag) (C : Addr) : Sp := fun vs H Q _ => ∃ (h dx p q : Addr) (m : Nat) (S : Stt), vs = [.ref h] ∧ HsX K C 20 H h dx p q m S ∧ RetV (.int ((S.fl.lamps.length + S.fl.posts.length + S.fl.panes.length : Nat))) H Q
section
variable {P : Program} {w : World} {K : PySem.W.Frag} {mg : Str → Option Value} {base : Heap} {f C cS : Addr} {fd : FuncData} {spD : Sp}
abbrev sUnsM : Stmt := (inClass (Hs.top 103) 3)
theorem scUnsM : FnScope ["self", "choices"] ["self", "choices"] (defScope sUnsM) := ⟨rfl, rfl, rfl, by decide +kernel, rfl, by decide +kernel, by decide +kernel⟩
theorem ok_unsM (F : FunD K "unsure" "House.unsure" (defArgs sUnsM) (defBody sUnsM) (defScope sUnsM) [] [] f fd) (M_do : MetX P w K mg base 7 C "do" ["self", "deed"] [] spD) (g_tuple : mg "tuple" = none) : FnOk P w K mg base (L2.CX P w) 8 f fd ["self", "choices"] (spUnsM K C spD) := by
  have nd := scUnsM.nd
  refine F.ok scUnsM (fun vs H Q E h => ?_) (fun cdv A outer s H vs Q E hr h => ⟨_, (pss_one (ps_ret (Hs.pe_metX M_do hr (by decide) (passes_call (takes_of rfl rfl rfl rfl) (fun _ _ _ _ h => h)) (pv 0) (pa_cons (pe_tup (pa_cons pe_str (pa_cons (pe_callTy call_tuple_of (by rfl) g_tuple (by decide +kernel) (pa_cons (pv 1) pa_nil)) pa_nil))) pa_nil)))), ?_⟩)
  · obtain ⟨h, dx, a, fs, xs, rfl, _⟩ := h
    rfl
  · obtain ⟨h, dx, a, fs, xs, rfl, hh, hf, ha, k⟩ := h
    refine ⟨_, rfl, h, dx, fs, rfl, hh, hf, _, rfl, a, xs, rfl, ?_⟩
    rcases ha with ha | ha
    · refine .inl ⟨ha, fun ch hch => ⟨sz_of (by simp), fun d hd => ?_⟩⟩
      have x1 := Ex.new (o := .tup xs) hch
      have x2 := Ex.new (o := .tup [V.str "unsure", .ref ch]) hd
      exact k d ch _ (x1.trans x2) (x2 _ _ upd_same) upd_same
    · refine .inr ⟨st_of ha, sz_of (by simp), fun d hd => ?_⟩
      have x2 := Ex.new (o := .tup [V.str "unsure", .ref a]) hd
      exact k d a _ x2 (x2 _ _ ha) upd_same
theorem ok_comingE (F : FunD K "coming" "House.coming" (defArgs sComing) (defBody sComing) (defScope sComing) [] [] f fd) (hC : HouseC K C) (Er_BadSort : ErrF P w K mg base 1 "BadSort" cS "badsort") : FnOk P w K mg base (L2.CX P w) 3 f fd ["self", "sort"] (spComingE K C cS) := by
  have nd := scComing.nd
  refine F.ok scComing (fun vs H Q E h => ?_) (fun cdv A outer s H vs Q E hr h => ⟨_, (pss_cons (ps_set (i := 2) nd rfl (.inl rfl) (pe_ix (r := rIxT K) ix_tup (pe_fld (pv 0) (by rfl)) pe_int (fun _ _ => rfl)))
  (pss_cons (ps_if (pt_cmp (pc_dnotin (Hs.un1 hr) (pv 1) (pv 2))) (pss_one (ps_raise rfl (takes_of rfl rfl rfl rfl) (Hs.pmk_err Er_BadSort hr (by decide) (by rfl)))) pss_nil)
  (pss_one (ps_ret (pe_dget (Hs.un1 hr) (pv 2) (pv 1) (fun _ _ => rfl)))))), ?_⟩)
  · obtain ⟨h, dx, p, q, m, S, so, rfl, _⟩ := h
    rfl
  · obtain ⟨h, dx, p, q, m, S, so, rfl, a, hso, k⟩ := h
    obtain ⟨s0, ps, qs, h1, h2, h3, h4, h5, h6, hS⟩ := a.ex
    obtain ⟨fl, lk, cm, tl, g1, hFl, g3, g4, g5⟩ := hS.ex
    refine ⟨_, rfl, h, C, dx, _, _, rfl, h1, hC.c, hC.s, rfl, s0, _, 2, _, rfl, rfl, g1, rfl, ?_⟩
    dsimp only [gName, List.set]
    simp only [not_or] at hso
    have hv : valV (comC S.cl S.cp S.cn S.ck) (.inr so) = none := by
      have n1 : ¬ (Sum.inr "lamp" : Key) = Sum.inr so := fun e => hso.1 (Sum.inr.inj e).symm
      have n2 : ¬ (Sum.inr "post" : Key) = Sum.inr so := fun e => hso.2.1 (Sum.inr.inj e).symm
      have n3 : ¬ (Sum.inr "pane" : Key) = Sum.inr so := fun e => hso.2.2.1 (Sum.inr.inj e).symm
      have n4 : ¬ (Sum.inr "look" : Key) = Sum.inr so := fun e => hso.2.2.2 (Sum.inr.inj e).symm
      unfold valV comC
      simp [n1, n2, n3, n4]
    have hg : DGet H cm (.str so) none := by
      have z := g5.get (k := .inr so)
      rw [hv] at z
      exact z
    exact ⟨_, rfl, _, rfl, cm, _, rfl, hg, _, rfl, ite_T rfl k⟩
abbrev sLenM : Stmt := (inClass (Hs.top 103) 35)
theorem scLenM : FnScope ["self", "things", "number"] ["self"] (defScope sLenM) := ⟨rfl, rfl, rfl, by decide +kernel, rfl, by decide +kernel, by decide +kernel⟩
theorem ok_lenM (F : FunD K "__len__" "House.__len__" (defArgs sLenM) (defBody sLenM) (defScope sLenM) [] [] f fd) (hC : HouseC K C) (g_len : mg "len" = none) : FnOk P w K mg base CX0 1 f fd ["self"] (spLenH K C) := by
  have nd := scLenM.nd
  refine F.ok scLenM (fun vs H Q E h => ?_) (fun cdv A outer s H vs Q E hr h => ⟨_, PSs.nox (pss_one (ps_ret (pe_callB (r := Evl.rLenS K) call_len_seq (by rfl) g_len PySem.boot_len (pa_cons (pe_lc2 (own := [("things", 1), ("number", 2)]) (vs1 := [2]) (g := (gName 1)) (g1 := (gName 2)) rfl nd (pi_values (pe_ix (r := rIxT K) ix_tup (pe_fld (pv 0) (by rfl)) pe_int (fun _ _ => rfl))) (blkOk_by (N := ["self", "things", "number"]) (sc := defScope (inClass (Hs.top 103) 35)) (by decide +kernel)) (by decide) (fun _ _ _ _ _ => (pg_name (i := 1) nd rfl (Or.inl rfl))) (fun _ _ _ _ _ => pts_nil) (fun _ _ _ _ _ => (pi_keys (pv 1))) (fun _ _ _ _ _ => (pg_name (i := 2) nd rfl (Or.inl rfl))) (fun _ _ _ _ _ => pts_nil) (fun _ _ _ _ _ => (pv 2))) pa_nil)))), ?_⟩)
  · obtain ⟨h, dx, p, q, m, S, rfl, _⟩ := h
    rfl
  · obtain ⟨h, dx, p, q, m, S, rfl, a, k⟩ := h
    obtain ⟨s0, ps, qs, h1, h2, h3, h4, h5, h6, hS⟩ := a.ex
    obtain ⟨fl, lk, cm, tl, g1, hF, g3, g4, g5⟩ := hS.ex
    obtain ⟨b, q2, q3, t1, t2, t3, ⟨of, f1⟩, ⟨o1, f2⟩, ⟨o2, f3⟩, ⟨o3, f4⟩, f5, f6, f7⟩ := hF.ex
    obtain ⟨w1, w2, w3, w4⟩ := hS.few
    refine ⟨_, rfl, h, C, dx, _, _, rfl, h1, hC.c, hC.s, rfl, s0, _, 0, _, rfl, rfl, g1, rfl, ?_⟩
    refine ⟨fl, of, _, rfl, f1, fun D hD => ?_⟩
    have cnt : ∀ i, i < 3 → ∃ (k0 : Key) (q0 : Addr) (oo : Obj) (ts : List (Key × V)), (bareV b q2 q3)[i]? = some (k0, .ref q0) ∧ H q0 = some (.frz oo (.dK ts)) ∧ ts.length = [S.fl.lamps.length, S.fl.posts.length, S.fl.panes.length].getD i 0 := fun i hi => by
      match i, hi with
      | 0, _ => exact ⟨_, b, o1, t1, rfl, f2, f5.1⟩
      | 1, _ => exact ⟨_, q2, o2, t2, rfl, f3, f6.1⟩
      | 2, _ => exact ⟨_, q3, o3, t3, rfl, f4, f7.1⟩
    refine lc2_out (walk_values (d := fl) (o := of) (kvs := bareV b q2 q3)) (fun i H' => Ex H H' ∧ ∃ acc, H' D = some (.lst acc) ∧ acc.length = ([S.fl.lamps.length, S.fl.posts.length, S.fl.panes.length].take i).sum) ⟨Ex.new hD, [], upd_same, rfl⟩ (fun i H' _ z => z.1 _ _ f1) (fun i x H' H'' hi z y => ?_) (fun H' z => ?_)
    · obtain ⟨e, acc, ha, hl⟩ := z
      obtain ⟨rfl, k1, hk1⟩ := y
      obtain ⟨k0, q0, oo, ts, hk0, hq, hts⟩ := cnt i hi
      rw [hk0] at hk1
      cases hk1
      have hb : ([S.fl.lamps.length, S.fl.posts.length, S.fl.panes.length].take i).sum ≤ 36 := by
        match i, hi with
        | 0, _ => exact Nat.zero_le _
        | 1, _ => simp; omega
        | 2, _ => simp; omega
      refine ⟨rfl, tyes_of ?_⟩
      simp only [if_true]
      refine ⟨_, rfl, q0, oo, rfl, .inl ⟨ts, e _ _ hq, ?_⟩⟩
      refine lc2_in (walk_keys (d := q0) (o := oo) (kvs := ts)) (fun j H' => Ex H H' ∧ ∃ acc, H' D = some (.lst acc) ∧ acc.length = ([S.fl.lamps.length, S.fl.posts.length, S.fl.panes.length].take i).sum + j) ⟨e, acc, ha, hl⟩ (fun j H' _ z => z.1 _ _ hq) (fun j x H' H'' hj z y => ?_) (fun H' z => ?_)
      · obtain ⟨e2, acc2, ha2, hl2⟩ := z
        obtain ⟨rfl, k2, v2, hk2, rfl⟩ := y
        refine ⟨rfl, tyes_of ?_⟩
        simp only [if_true]
        have hj2 : j < 40 := by
          have hw : ts.length ≤ 12 := by
            rw [hts]
            match i, hi with
            | 0, _ => exact w1
            | 1, _ => exact w2
            | 2, _ => exact w3
          omega
        exact ⟨_, rfl, acc2, ha2, by rw [sizeLine_eq]; omega, Ex.mut e2 hD, _, upd_same, by rw [List.length_append, hl2] <;> rfl⟩
      · obtain ⟨e2, acc2, ha2, hl2⟩ := z
        refine ⟨e2, acc2, ha2, ?_⟩
        rw [hl2, hts]
        match i, hi with
        | 0, _ => simp
        | 1, _ => simp
        | 2, _ => simp; omega
    · obtain ⟨e, acc, ha, hl⟩ := z
      refine ⟨D, acc, rfl, .inl (sq_of ha), ?_⟩
      have hl' : acc.length = S.fl.lamps.length + S.fl.posts.length + S.fl.panes.length := by
        rw [hl]
        show ([S.fl.lamps.length, S.fl.posts.length, S.fl.panes.length].take 3).sum = _
        simp
        omega
      rw [hl']
      exact k H' e
end
end Hs
namespace Hs
open PySem PySem.Spec PyProof.Rows L2 Evl
theorem bag_kp {H H' : Hp} {b l : Addr} {ns : List Int} {n : Nat} (B : BagAt H b l ns n) (e : But H H' b) : Kp H H' := let ⟨_, h⟩ := bag_lst B; Kp.but h e
theorem un65 {k : Nat} {A : Around} (r : Room k A) : A.units + 65 < cLine := by
  have := r.un
  omega
/-- a range whose bound is drawn -/
theorem q_forRD {D : Ends} {tu tz : TS} {ta : TA} {j : Nat} {σ : L2.St} {H : Hp} (M : Int → Hp → Prop) (h : ∀ k : List V → Hp → Prop, (∀ n H1, M n H1 → k [.int n] H1) → ta σ H k) (Pv : Int → Nat → L2.St → Hp → Prop) (hM : ∀ n H1, M n H1 → (0 ≤ n ∧ n ≤ 100000) ∧ Pv n 0 σ H1)
    (hs : ∀ n (i : Nat) σ' H', (i : Int) < n → Pv n i σ' H' → tu { D with nx := Pv n (i + 1), ct := Pv n (i + 1), bk := tz D } (σ'.set j (some (.int (i : Int)))) H') (hd : ∀ n σ' H', Pv n n.toNat σ' H' → tz D σ' H') : tSeq (tFor (iRng1 ta) (gName j) tu) tz D σ H :=
  h _ fun n H1 m => ⟨n, rfl, by have := (hM n H1 m).1; omega, by have := (hM n H1 m).1; omega, for_range (D := { D with nx := tz D }) (lo := 0) (n := n.toNat) (Pv n) (hM n H1 m).2 (fun i σ' H' hi p => by
    have e0 : (0 : Int) + (i : Int) = (i : Int) := Int.zero_add _
    show tu { D with nx := Pv n (i + 1), ct := Pv n (i + 1), bk := tz D } (σ'.set j (some (.int ((0 : Int) + (i : Int))))) H'
    rw [e0]
    exact hs n i σ' H' (by omega) p) (hd n)⟩
end Hs
namespace Hs
open PySem PySem.Spec PyProof.Rows L2 Evl
/-! ### an open lamp that is drawn -/
theorem eqv_chc (c d : Chc) : PyData.eqv (chcD c) (chcD d) = decide (c = d) := by
  obtain ⟨a1, a2, a3, a4, a5⟩ := c
  obtain ⟨b1, b2, b3, b4, b5⟩ := d
  rw [Bool.eq_iff_iff]
  simp [chcD, PyData.eqv, PyData.eqvAll]
theorem chcD_ok (c : Chc) : SeqAt.shaped (chcD c) = true := by simp [chcD, SeqAt.shaped, PyData.canLay0, PyData.canLayAll0, PyData.depth, PyData.depthAll]
theorem lay_chcs : ∀ cs : List Chc, PyData.canLayAll0 (cs.map chcD) = true ∧ PyData.depthAll (cs.map chcD) ≤ 2
  | [] => by simp [PyData.canLayAll0, PyData.depthAll]
  | c :: cs => by
    obtain ⟨h1, h2⟩ := lay_chcs cs
    have e1 : PyData.canLay0 (chcD c) = true := by simp [chcD, PyData.canLay0, PyData.canLayAll0]
    have e2 : PyData.depth (chcD c) = 1 := by simp [chcD, PyData.depth, PyData.depthAll]
    rw [List.map_cons, PyData.canLayAll0, PyData.depthAll, e1, h1, e2]
    refine ⟨rfl, ?_⟩
    omega
theorem chcs_ok (cs : List Chc) : SeqAt.shaped (.list (cs.map chcD)) = true := by
  obtain ⟨h1, h2⟩ := lay_chcs cs
  unfold SeqAt.shaped
  rw [show PyData.canLay0 (.list (cs.map chcD)) = PyData.canLayAll0 (cs.map chcD) by rw [PyData.canLay0], h1]
  rw [show PyData.depth (.list (cs.map chcD)) = PyData.depthAll (cs.map chcD) + 1 by rw [PyData.depth]]
  rw [decide_eq_true (show PyData.depthAll (cs.map chcD) + 1 ≤ 64 by omega)] <;> rfl
theorem any_chc {cs : List Chc} {c : Chc} : ((cs.map chcD).any fun z => PyData.eqv z (chcD c)) = decide (c ∈ cs) := by
  rw [Bool.eq_iff_iff, List.any_eq_true]
  simp only [decide_eq_true_eq]
  constructor
  · rintro ⟨z, hz, e⟩
    obtain ⟨d, hd, rfl⟩ := List.mem_map.mp hz
    rw [eqv_chc] at e
    rw [← of_decide_eq_true e]
    exact hd
  · intro h
    exact ⟨_, List.mem_map.mpr ⟨c, h, rfl⟩, by rw [eqv_chc]; exact decide_eq_true rfl⟩
def ChR (H : Hp) (ps : List Addr) (cs : List Chc) : Prop := ps.length = cs.length ∧ ∀ (i : Nat) (p : Addr) (c : Chc), ps[i]? = some p → cs[i]? = some c → H p = some (.tup (chv c))
theorem ChR.kp {H H' : Hp} {ps : List Addr} {cs : List Chc} (h : ChR H ps cs) (e : Kp H H') : ChR H' ps cs := ⟨h.1, fun i p c a b => e.tup (h.2 i p c a b)⟩
theorem ChR.snoc {H : Hp} {ps : List Addr} {cs : List Chc} {p : Addr} {c : Chc} (h : ChR H ps cs) (hp : H p = some (.tup (chv c))) : ChR H (ps ++ [p]) (cs ++ [c]) := by
  refine ⟨by rw [List.length_append, List.length_append, h.1] <;> rfl, fun i p' c' h1 h2 => ?_⟩
  by_cases hi : i < ps.length
  · rw [List.getElem?_append_left hi] at h1
    rw [List.getElem?_append_left (by rw [← h.1]; exact hi)] at h2
    exact h.2 i p' c' h1 h2
  · rw [List.getElem?_append_right (by omega)] at h1
    rw [List.getElem?_append_right (by rw [← h.1]; omega), ← h.1] at h2
    have e0 : i - ps.length = 0 := by
      have : i - ps.length < 1 := (List.getElem?_eq_some_iff.mp h1).1
      omega
    rw [e0] at h1 h2
    cases h1
    cases h2
    exact hp
theorem ChR.dp {K : PySem.W.Frag} {H : Hp} {a : Addr} {ps : List Addr} {cs : List Chc} (h : ChR H ps cs) (ha : H a = some (.lst (ps.map V.ref))) : Dp K H (.ref a) (.list (cs.map chcD)) := by
  refine .lst (sq_of ha) (DtAll.dp _ _ (DtAll.of (by rw [List.length_map, List.length_map, h.1]) fun i v d hv hd => ?_))
  rw [List.getElem?_map] at hv hd
  obtain ⟨p, hp, rfl⟩ := Option.map_eq_some_iff.mp hv
  obtain ⟨c, hc, rfl⟩ := Option.map_eq_some_iff.mp hd
  exact dt_chc (st_of (h.2 i p c hp hc))
def ChN (c : Chc) : Prop := Near (c.1, c.2.1) ∧ triB c.2.2
theorem upd_kp {H : Hp} {a : Addr} {xs ys : List V} (ha : H a = some (.lst xs)) : Kp H (upd H a (.lst ys)) := Kp.upd ha
def spUnsD : Sp := fun vs H Q _ => ∃ (b l g : Addr) (ns : List Int) (n : Nat) (w x y upto : Int), vs = [.ref b, .ref g, .int upto] ∧ BagAt H b l ns n ∧ n < 700000 ∧ H g = some (.tup [.int w, .int x, .int y]) ∧ Grid w x y ∧ 2 ≤ upto ∧ upto ≤ 6 ∧
  ∀ (d ch : Addr) (cs : List Chc) (H' : Hp), cs.Nodup → 2 ≤ cs.length → (cs.length : Int) ≤ upto → (∀ c ∈ cs, ChN c) → H d = none → H' d = some (.tup [.str "unsure", .ref ch]) → ChcsR H' ch cs → BagAt H' b l ns (n + 70) → But H H' b → Q (.ref d) H'
section
variable {P : Program} {w : World} {K : PySem.W.Frag} {mg : Str → Option Value} {base : Heap} {f : Addr} {fd : FuncData}
abbrev sUnsD : Stmt := top 118
theorem scUnsD : FnScope ["_law_bag_here", "_law_grid_here", "_law_upto", "_law_found", "_law_k", "_law_choice", "_law_first"] ["_law_bag_here", "_law_grid_here", "_law_upto"] (defScope sUnsD) := ⟨rfl, rfl, rfl, by decide +kernel, rfl, by decide +kernel, by decide +kernel⟩
theorem ok_unsD (F : FnP K "_law_unsure_deed" sUnsD f fd) (O__law_pull : Own P w K mg base 1 "_law_pull" ["_law_bag_here", "_law_many"] spPull) (O__law_spot : Own P w K mg base 2 "_law_spot" ["_law_bag_here", "_law_grid_here"] spSpot) (O__law_tint : Own P w K mg base 2 "_law_tint" ["_law_bag_here"] spTint) (g_range : mg "range" = none) (g_len : mg "len" = none) (g_tuple : mg "tuple" = none) : FnOk P w K mg base CX0 3 f fd ["_law_bag_here", "_law_grid_here", "_law_upto"] spUnsD := by
  have nd := scUnsD.nd
  refine F.ok scUnsD (fun vs H Q E h => ?_) (fun cdv A outer s H vs Q E hr h => ⟨_, PSs.nox (pss_cons (ps_set (i := 3) nd rfl (.inl rfl) (pe_lst pa_nil))
  (pss_cons (ps_for PassesOwn.never rfl (pi_range1 (by rfl) g_range (pa_cons (pe_op op_add pe_int (Hs.pe_own O__law_pull hr (by first | decide | omega) (by rfl) (pa_cons (pv 0) (pa_cons (pe_op op_sub (pv 2) pe_int) pa_nil)))) pa_nil)) (pg_name (i := 4) nd rfl (.inl rfl)) (pss_cons (ps_set (i := 5) nd rfl (.inl rfl) (pe_op (r := rCatT K) op_catT (Hs.pe_own O__law_spot hr (by first | decide | omega) (by rfl) (pa_cons (pv 0) (pa_cons (pv 1) pa_nil))) (Hs.pe_own O__law_tint hr (by first | decide | omega) (by rfl) (pa_cons (pv 0) pa_nil))))
  (pss_one (ps_if (pt_cmpR (op_notInD (Hs.un65 hr)) (pv 5) (pv 3) (by rfl)) (pss_one (ps_expr (pe_bm PySem.F.plainAttrs_list PySem.F.slot_list_append PySem.F.type_list_append mt_append (pv 3) (pa_cons (pv 5) pa_nil)))) pss_nil))))
  (Evl.pss_cut (ps_if (pt_cmpR op_lt (pe_callB (r := Evl.rLenS K) call_len_seq (by rfl) g_len PySem.boot_len (pa_cons (pv 3) pa_nil)) pe_int (nomark _)) (pss_cons (ps_set (i := 6) nd rfl (.inl rfl) (pe_ix (r := rIxL K) ix_list (pv 3) pe_int (fun _ _ => rfl)))
  (pss_one (ps_expr (pe_bm PySem.F.plainAttrs_list PySem.F.slot_list_append PySem.F.type_list_append mt_append (pv 3) (pa_cons (pe_op (r := rCatT K) op_catT (pe_slice (r := rSlT K) sl_tup (pv 6) po_none (po_some pe_int)) (pe_tup (pa_cons (pe_ix (r := rIxT K) ix_tup (pv 6) pe_int (fun _ _ => rfl)) (pa_cons (pe_ix (r := rIxT K) ix_tup (pv 6) pe_int (fun _ _ => rfl)) (pa_cons (pe_ifExp (pt_cmpR op_ne (pe_op op_mulW (pe_ix (r := rIxT K) ix_tup (pv 6) pe_int (fun _ _ => rfl)) pe_int) (pe_op op_pow pe_int pe_int) (nomark _)) (pe_op op_sub (pe_op op_pow pe_int pe_int) (pe_ix (r := rIxT K) ix_tup (pv 6) pe_int (fun _ _ => rfl))) pe_int) pa_nil))))) pa_nil))))) pss_nil)
  (pss_one (ps_ret (pe_tup (pa_cons pe_str (pa_cons (pe_callTy call_tuple_of (by rfl) g_tuple (by decide +kernel) (pa_cons (pv 3) pa_nil)) pa_nil)))))))), ?_⟩)
  · obtain ⟨b, l, g, ns, n, w, x, y, upto, rfl, _⟩ := h
    rfl
  · obtain ⟨b, l, g, ns, n, w, x, y, upto, rfl, B, hn, hg, G, u2, u6, k⟩ := h
    refine q_asgL (xs := []) (el_lst ea_nil (by simp)) fun fo H1 nfo e1 hfo => ?_
    have nfb : fo ≠ b := bag_ne B nfo
    have nfl : fo ≠ l := Ne.symm (ne_of_none B.ls nfo)
    dsimp only [List.set]
    refine q_forRD (M := fun m H' => 2 ≤ m ∧ m ≤ upto ∧ BagAt H' b l ns (n + 1) ∧ But H H' b ∧ H' fo = some (.lst [])) (fun k' q' => ?_) (fun m i σ' H' => m ≤ upto ∧ 2 ≤ m ∧ ∃ (ps : List Addr) (cs : List Chc) (v4 v5 : Option V), σ' = [some (.ref b), some (.ref g), some (.int upto), some (.ref fo), v4, v5, none] ∧ BagAt H' b l ns (n + 1 + 10 * i) ∧ But H H' b ∧ H' fo = some (.lst (ps.map V.ref)) ∧ ChR H' ps cs ∧ cs.Nodup ∧ cs.length ≤ i ∧ (0 < i → 1 ≤ cs.length) ∧ ∀ c ∈ cs, ChN c) (fun m H' z => ?_) (fun m i σ' H' hi z => ?_) (fun m σ' H' z => ?_)
    · refine ⟨_, rfl, _, rfl, _, _, rfl, rfl, b, l, ns, n, upto - 1, rfl, B.ext e1 (Nat.le_refl _), by omega, by omega, by omega, fun v H2 v0 v1 B2 b2 => ⟨_, _, rfl, rfl, q' _ _ ⟨by omega, by omega, B2, (But.of e1).trans b2, b2 _ _ hfo nfb⟩⟩⟩
    · obtain ⟨z1, z2, z3, z4, z5⟩ := z
      exact ⟨⟨by omega, by omega⟩, z2, z1, [], [], none, none, rfl, z3, z4, z5, ⟨rfl, fun i p c h => by cases h⟩, List.nodup_nil, Nat.le_refl _, (fun h => absurd h (Nat.lt_irrefl _)), fun c h => by cases h⟩
    · obtain ⟨m1, m2, ps, cs, v4, v5, rfl, Bi, bi, hf, hc, hnd, hl, hl0, hN⟩ := z
      have hi6 : i < 6 := by omega
      dsimp only [List.set]
      refine ⟨_, rfl, _, rfl, b, l, g, ns, n + 1 + 10 * i, w, x, y, rfl, Bi, by omega, (bag_kp B bi).tup hg, G, fun p z H2 hz np hp B2 b2 => ⟨_, rfl, b, l, ns, n + 1 + 10 * i + 2, rfl, B2, by omega, fun r t H3 ht nr hr3 B3 b3 => ⟨p, r, _, _, rfl, rfl, st_of (b3.tup B2 hp), st_of hr3, by rw [List.ne_nil_iff_length_pos]; show 0 < 2; decide, by show 2 + 3 ≤ sizeLine; decide, (fun z => by cases z), fun _ u hu => ?_⟩⟩⟩
      have xu := Ex.new (o := .tup (prV z ++ tri t)) hu
      have hu4 := upd_same (H := H3) (a := u) (o := .tup (prV z ++ tri t))
      have B4 := B3.ext (m := n + 1 + 10 * i + 8) xu (Nat.le_refl _)
      have b4 : But H' (upd H3 u (.tup (prV z ++ tri t))) b := (b2.trans b3).ex xu
      generalize upd H3 u (.tup (prV z ++ tri t)) = H4 at xu hu4 B4 b4 ⊢
      obtain ⟨c, hcc⟩ : ∃ c : Chc, c = (z.1, z.2, t) := ⟨_, rfl⟩
      have hu5 : H4 u = some (.tup (chv c)) := by rw [hcc]; exact hu4
      have hcN : ChN c := by rw [hcc]; exact ⟨hz, ht⟩
      have k4 := bag_kp Bi b4
      have hf4 := b4 _ _ hf nfb
      have hc4 := hc.kp k4
      dsimp only [gName, List.set]
      refine s_when (b := !decide (c ∈ cs)) (fun H5 e5 Q' q' => ⟨_, rfl, _, rfl, chcD c, cs.map chcD, (dt_chc (st_of (e5 _ _ hu5))).dp, (hc4.kp (Kp.of e5)).dp (e5 _ _ hf4), chcD_ok c, chcs_ok cs, _, rfl, by rw [any_chc]; exact q' H5 (Ex.refl _)⟩) (fun ht5 H5 e5 => ?_) (fun ht5 H5 e5 => ?_)
      · have hnm : c ∉ cs := by simpa using ht5
        have hf5 := e5 _ _ hf4
        have hz5 : ps.length < 100 := by rw [hc.1]; omega
        refine ⟨_, rfl, .inl ⟨rfl, _, sq_of hf5⟩, _, rfl, fo, _, _, rfl, rfl, hf5, sz_lt (by rw [List.length_map]; omega), ?_⟩
        have ku := upd_kp (ys := ps.map V.ref ++ [V.ref u]) hf5
        refine ⟨m1, m2, ps ++ [u], cs ++ [c], _, _, rfl, bag_upd (B4.ext e5 (by omega)) (Ne.symm nfb) (Ne.symm nfl), ((bi.trans b4).ex e5).upd2 nfo, ?_, ?_, ?_, ?_, ?_, ?_⟩
        · rw [upd_same, List.map_append] <;> rfl
        · exact ((hc4.kp (Kp.of e5)).kp ku).snoc (ku.tup (e5 _ _ hu5))
        · rw [List.nodup_append]
          refine ⟨hnd, by simp, fun a ha b' hb' e => hnm ?_⟩
          rw [List.mem_singleton.mp hb'] at e
          rw [← e]
          exact ha
        · rw [List.length_append]
          show cs.length + 1 ≤ i + 1
          omega
        · intro _
          rw [List.length_append]
          show 1 ≤ cs.length + 1
          omega
        · intro d hd
          rcases List.mem_append.mp hd with q | q
          · exact hN d q
          · rw [List.mem_singleton.mp q]
            exact hcN
      · have hmm : c ∈ cs := by simpa using ht5
        exact ⟨m1, m2, ps, cs, _, _, rfl, B4.ext e5 (by omega), (bi.trans b4).ex e5, e5 _ _ hf4, hc4.kp (Kp.of e5), hnd, by omega, fun _ => List.length_pos_of_mem hmm, hN⟩
    · obtain ⟨m1, m2, ps, cs, v4, v5, rfl, Bi, bi, hf, hc, hnd, hl, hl0, hN⟩ := z
      have h1 := hl0 (by omega)
      have hm7 : cs.length ≤ 6 := by omega
      have hpl := hc.1
      have Bi : BagAt H' b l ns (n + 67) := Bi.ext (Ex.refl _) (by omega)
      refine q_cut (M := fun σ' H2 => ∃ (ps2 : List Addr) (cs2 : List Chc) (v4 v5 v6 : Option V), σ' = [some (.ref b), some (.ref g), some (.int upto), some (.ref fo), v4, v5, v6] ∧ BagAt H2 b l ns (n + 67) ∧ But H H2 b ∧ H2 fo = some (.lst (ps2.map V.ref)) ∧ ChR H2 ps2 cs2 ∧ cs2.Nodup ∧ 2 ≤ cs2.length ∧ (cs2.length : Int) ≤ upto ∧ ∀ c ∈ cs2, ChN c) ?_ ?_
      · refine s_when (b := decide (cs.length < 2)) (et_is (et_test (ev_op (ev_len (ev_var rfl) (sq_of hf)) ev_c rv_I0)) (by rw [List.length_map, hpl, Bool.eq_iff_iff]; simp; omega)) (fun ht2 H2 e2 => ?_) (fun ht2 H2 e2 => ?_)
        · have h2 := of_decide_eq_true ht2
          match cs, ps, hpl, h1, h2, hc, hnd, hN, hf with
          | [c], [p], _, _, _, hc, _, hN, hf =>
          have hp := hc.2 0 p c rfl rfl
          have hpN := hN c (List.mem_singleton.mpr rfl)
          have hf2 := e2 _ _ hf
          have hp2 := e2 _ _ hp
          refine q_asg (ev_ix rfl hf2 rfl) fun H3 e3 => ?_
          dsimp only [gName, List.set]
          have e23 := e2.trans e3
          have hf3 := e23 _ _ hf
          have hp3 := e23 _ _ hp
          have t6 : (10 : Int) ^ Int.toNat 6 = 1000000 := by decide
          obtain ⟨m, hm⟩ : ∃ m : Int, m = if c.2.2.2.2 * 2 = 1000000 then 0 else 1000000 - c.2.2.2.2 := ⟨_, rfl⟩
          obtain ⟨⟨r0, r1⟩, ⟨g0, g1⟩, q0, q1⟩ := hpN.2
          refine ⟨_, rfl, .inl ⟨rfl, _, sq_of hf3⟩, ?_⟩
          refine (eu_sl (K := K) (xs := chv c) (lo := none) (hi := some 2) (ev_var rfl) eo_none (eo_some ev_c) (st_of hp3) (fun z => nomatch (show (2 : Nat) = 5 from z.2))) H3 (Ex.refl _) _ fun p6 H6 np6 e6 h6 => ?_
          have hp6 := st_of (K := K) (e6 _ _ hp3)
          refine (eu_tup (vs := [.int c.2.2.1, .int c.2.2.2.1, .int m]) (ea_cons (ev_ixt rfl hp6 rfl) (ea_cons (ev_ixt rfl hp6 rfl) (ea_cons (ev_if (et_test (ev_op (ev_op (ev_ixt rfl hp6 rfl) ev_c (rv_I (mul64 (i := c.2.2.2.2) (j := 2) (by omega) (by decide)))) (ev_op ev_c ev_c (rv_I ⟨by decide, by decide, by decide⟩)) (rv_ne rfl))) (fun hb => ?_) (fun hb => ?_)) ea_nil))) (by show 3 ≤ 100000; decide)) H6 (Ex.refl _) _ fun p7 H7 np7 e7 h7 => ?_
          · rw [t6] at hb
            have hne : ¬ c.2.2.2.2 * 2 = 1000000 := by
              intro z
              rw [z] at hb
              simp at hb
            rw [hm, if_neg hne, ← t6]
            exact ev_op (ev_op ev_c ev_c (rv_I ⟨by decide, by decide, by decide⟩)) (ev_ixt rfl hp6 rfl) rv_I0
          · rw [t6] at hb
            have he : c.2.2.2.2 * 2 = 1000000 := by
              by_cases z : c.2.2.2.2 * 2 = 1000000
              · exact z
              · simp [z] at hb
            rw [hm, if_pos he]
            exact ev_c
          · refine ⟨p6, p7, _, _, rfl, rfl, st_of (e7 _ _ h6), st_of h7, by rw [List.ne_nil_iff_length_pos]; show 0 < 2; decide, by show 2 + 3 ≤ sizeLine; decide, (fun z => by cases z), fun _ u hu => ?_⟩
            have xu := Ex.new (o := .tup (cutV (chv c) none (some 2) ++ [V.int c.2.2.1, .int c.2.2.2.1, .int m])) hu
            have hu8 := upd_same (H := H7) (a := u) (o := .tup (cutV (chv c) none (some 2) ++ [V.int c.2.2.1, .int c.2.2.2.1, .int m]))
            have e38 := (e6.trans e7).trans xu
            generalize upd H7 u (.tup (cutV (chv c) none (some 2) ++ [V.int c.2.2.1, .int c.2.2.2.1, .int m])) = H8 at xu hu8 e38 ⊢
            have hf8 := e38 _ _ hf3
            have e08 := e23.trans e38
            refine ⟨fo, _, _, rfl, rfl, hf8, sz_lt (by show 1 < 100000; decide), ?_⟩
            have ku := upd_kp (ys := [V.ref p] ++ [V.ref u]) hf8
            have mne : m ≠ c.2.2.2.2 := by
              rw [hm]
              split <;> omega
            refine ⟨[p, u], [c, (c.1, c.2.1, (c.2.2.1, c.2.2.2.1, m))], _, _, _, rfl, bag_upd (Bi.ext e08 (Nat.le_refl _)) (Ne.symm nfb) (Ne.symm nfl), (bi.ex e08).upd2 nfo, upd_same, ?_, ?_, Nat.le_refl 2, u2, ?_⟩
            · exact ((hc.kp (Kp.of e08)).kp ku).snoc (ku.tup hu8)
            · rw [List.nodup_cons]
              refine ⟨fun z => ?_, by simp⟩
              have z2 := congrArg (fun c : Chc => c.2.2.2.2) (List.mem_singleton.mp z)
              exact mne z2.symm
            · intro d hd
              rcases List.mem_cons.mp hd with q | q
              · rw [q]
                exact hpN
              · rw [List.mem_singleton.mp q]
                refine ⟨hpN.1, ⟨r0, r1⟩, ⟨g0, g1⟩, ?_⟩
                show 0 ≤ m ∧ m ≤ 1000000
                rw [hm]
                split <;> omega
        · have h2 := of_decide_eq_false ht2
          exact ⟨ps, cs, _, _, _, rfl, Bi.ext e2 (Nat.le_refl _), bi.ex e2, e2 _ _ hf, hc.kp (Kp.of e2), hnd, by omega, by omega, hN⟩
      · rintro σ' H2 ⟨ps2, cs2, v4', v5', v6', rfl, B2, b2, hf2, hc2, hnd2, l2, l6, hN2⟩
        refine ⟨_, rfl, fo, _, rfl, .inl ⟨sq_of hf2, fun ch hch => ⟨sz_of (by simp), fun d hd => ?_⟩⟩⟩
        have x1 := Ex.new (o := .tup (ps2.map V.ref)) hch
        have x2 := Ex.new (o := .tup [V.str "unsure", .ref ch]) hd
        have x12 := x1.trans x2
        exact k d ch cs2 _ hnd2 l2 l6 hN2 (b2.fresh B2 (fresh_back x1 hd)) upd_same ⟨ps2, x2 _ _ upd_same, hc2.1, fun i p c a a' => x12 _ _ (hc2.2 i p c a a')⟩ (B2.ext x12 (by omega)) (b2.ex x12)
end
end Hs
namespace Hs
open PySem PySem.Spec PyProof.Rows L2 Evl
theorem ev_chain {σ : L2.St} {H : Hp} {ta tb tc : TE} {i j k : Int} (ha : Ev ta σ H (.int i)) (hb : Ev tb σ H (.int j)) (hc : Ev tc σ H (.int k)) : Ev (tChain (rI0 fun i j => .bl (decide (i ≤ j))) (rI0 fun i j => .bl (decide (i ≤ j))) ta tb tc) σ H (.bl (decide (i ≤ j) && decide (j ≤ k))) := fun H1 e Q q => ha H1 e _ fun H2 e2 => hb H2 (e.trans e2) _ fun H3 e3 => ⟨i, j, rfl, rfl, decide (i ≤ j), rfl, by
  have e13 := e2.trans e3
  cases h : decide (i ≤ j) with
  | true =>
    rw [h, Bool.true_and] at q
    exact hc H3 (e.trans e13) _ fun H4 e4 => ⟨j, k, rfl, rfl, q H4 (e13.trans e4)⟩
  | false =>
    rw [h, Bool.false_and] at q
    exact q H3 e13⟩
end Hs
namespace Hs
open PySem PySem.Spec PyProof.Rows L2 Evl
section
variable {K : PySem.W.Frag}
theorem ev_any {σ : L2.St} {H : Hp} {te : TE} {bs : List Bool} (h : EvL te σ H (bs.map V.bl)) : Ev (tCB (rAny K) (tCons te tNil)) σ H (.bl (bs.any id)) := fun H1 e Q q =>
  h H1 e _ fun p H2 _ e2 h2 => ⟨p, bs, rfl, sq_of h2, q H2 e2⟩
end
end Hs
namespace Hs
open PySem PySem.Spec PyProof.Rows L2 Evl
/-! ### what is due of a thing that is put -/
theorem ret_if {b : Bool} {t : TT} {ta tb : TE} {D : Ends} {σ : L2.St} {H : Hp} (h : EvT t σ H b) (h1 : b = true → ∀ H1, Ex H H1 → tRet ta D σ H1) (h2 : b = false → ∀ H1, Ex H H1 → tRet tb D σ H1) : tRet (tIf t ta tb) D σ H := h H (Ex.refl _) _ fun H1 e1 => by
  cases b with
  | true => exact ite_T rfl (h1 rfl H1 e1)
  | false => exact ite_F rfl (h2 rfl H1 e1)
theorem ev_allB {K : PySem.W.Frag} {te : TE} {σ : L2.St} {H : Hp} {bs : List Bool} (h : EvL te σ H (bs.map V.bl)) : Ev (tCB (rAll K) (tCons te tNil)) σ H (.bl (bs.all id)) := fun H1 e Q q => h H1 e _ fun p H2 _ e2 h2 => ⟨p, bs, rfl, sq_of h2, q H2 e2⟩
def BadV (H : Hp) (v : V) : Option Str → Prop
  | none => v = .non
  | some w => ∃ p, v = .ref p ∧ H p = some (.tup [.str w])
def RetB (o : Option Str) (H : Hp) (Q : VK) : Prop := ∀ v H', Ex H H' → BadV H' v o → Q v H'
theorem RetB.ext {o : Option Str} {H H1 : Hp} {Q : VK} (h : RetB o H Q) (e : Ex H H1) : RetB o H1 Q := fun v H' e' b => h v H' (e.trans e') b
theorem BadV.ext {H H' : Hp} {v : V} {o : Option Str} (h : BadV H v o) (e : Ex H H') : BadV H' v o := by
  cases o with
  | none => exact h
  | some w => exact let ⟨p, a, b⟩ := h; ⟨p, a, e _ _ b⟩
theorem given_eq {n : Nat} {v : Nat → V} {ys : List V} (hl : n = ys.length) (h : ∀ i y, ys[i]? = some y → v i = y) : given n (fun _ => true) v = ys := by
  unfold given
  rw [List.filter_eq_self.mpr fun _ _ => rfl]
  refine List.ext_getElem (by simp [hl]) fun i h1 h2 => ?_
  rw [List.getElem_map, List.getElem_range]
  exact h i _ (List.getElem?_eq_getElem h2)
theorem ret_word {o : Option Str} {wd : Str} {D : Ends} {σ : L2.St} {H0 H : Hp} {Q : VK} (hD : D.rt = Q) (e : Ex H0 H) (ho : o = some wd) (k : RetB o H0 Q) : tRet (tTup (tCons (tC (.str wd)) tNil)) D σ H := by
  refine ⟨sz_of (by simp), fun p hp => ?_⟩
  rw [hD]
  subst ho
  exact k _ _ (e.trans (Ex.new hp)) ⟨p, rfl, upd_same⟩
def spBeyond (K : PySem.W.Frag) : Sp := fun vs H Q _ => ∃ (a : Addr) (ns : List Int), vs = [.ref a] ∧ SqT K H a (iv ns) ∧ ns.length ≤ 100 ∧ RetV (.bl (decide (¬ InFar ns))) H Q
def spBadC (K : PySem.W.Frag) : Sp := fun vs H Q _ => ∃ (a : Addr) (c : Chc), vs = [.ref a] ∧ SqT K H a (chv c) ∧ RetB (badC c) H Q
section
variable {P : Program} {w : World} {K : PySem.W.Frag} {mg : Str → Option Value} {base : Heap} {f : Addr} {fd : FuncData}
abbrev sBeyond : Stmt := top 121
theorem scBeyond : FnScope ["_law_numbers", "_law_number"] ["_law_numbers"] (defScope sBeyond) := ⟨rfl, rfl, rfl, by decide +kernel, rfl, by decide +kernel, by decide +kernel⟩
theorem ok_beyond (F : FnP K "_law_beyond" sBeyond f fd) (g_any : mg "any" = none) (g_abs : mg "abs" = none) : FnOk P w K mg base CX0 1 f fd ["_law_numbers"] (spBeyond K) := by
  have nd := scBeyond.nd
  refine F.ok scBeyond (fun vs H Q E h => ?_) (fun cdv A outer s H vs Q E hr h => ⟨_, PSs.nox (pss_one (ps_ret (pe_callB (r := rAny K) (cr_any rfl) (by rfl) g_any (by decide +kernel) (pa_cons (pe_lc (own := [("_law_number", 1)]) rfl nd (pi_tup (pv 0)) (blkOk_by (N := ["_law_numbers", "_law_number"]) (sc := defScope (Hs.top 121)) (by decide +kernel)) (fun _ _ _ _ _ => (pg_name (i := 1) nd rfl (Or.inl rfl))) (fun _ _ _ _ _ => pts_nil) (fun _ _ _ _ _ => (pe_cmpR op_gt (pe_callB call_abs (by rfl) g_abs (by decide +kernel) (pa_cons (pv 1) pa_nil)) (pe_op op_pow pe_int pe_int) (nomark _)))) pa_nil)))), ?_⟩)
  · obtain ⟨a, ns, rfl, _⟩ := h
    rfl
  · obtain ⟨a, ns, rfl, hS, hz, k⟩ := h
    have t6 : (10 : Int) ^ Int.toNat 6 = 1000000 := by decide
    have z : ∀ {te : TE} {bs : List Bool}, EvL te [some (.ref a), none] H (bs.map V.bl) → Ev (tCB (rAny K) (tCons te tNil)) [some (.ref a), none] H (.bl (bs.any id)) := fun h => ev_any h
    refine s_ret (z (bs := ns.map fun n => decide (1000000 < absI n)) ?_) fun H1 e1 => ?_
    · rw [← given_eq (n := (iv ns).length) (v := fun i => V.bl (decide (1000000 < absI (ns.getD i 0)))) (ys := (ns.map fun n => decide (1000000 < absI n)).map V.bl) (by simp) (fun i y hy => by
        rw [List.getElem?_map, List.getElem?_map] at hy
        cases hn : ns[i]? with
        | none =>
          rw [hn] at hy
          cases hy
        | some n =>
          rw [hn] at hy
          cases hy
          show V.bl (decide (1000000 < absI (ns.getD i 0))) = _
          rw [List.getD_eq_getElem?_getD, hn] <;> rfl)]
      refine el_lcT' _ (ev_var rfl) hS (by rw [List.length_map]; omega) (fun _ => rfl) (fun i x H1 e1 hx => ?_)
      obtain ⟨c, rfl, hc⟩ := iv_at hx
      have e : ns.getD i 0 = c := by rw [List.getD_eq_getElem?_getD, hc] <;> rfl
      rw [e, ← t6]
      exact ev_op (fun H2 _ Q q => ⟨_, rfl, c, rfl, q H2 (Ex.refl H2)⟩) (ev_op ev_c ev_c (rv_I ⟨by decide, by decide, by decide⟩)) rv_I0
    have eb : ((ns.map fun n => decide (1000000 < absI n)).any id) = decide (¬ InFar ns) := by
      rw [Bool.eq_iff_iff, List.any_eq_true]
      simp only [decide_eq_true_eq]
      unfold InFar
      constructor
      · rintro ⟨b, hb, hb2⟩ hall
        obtain ⟨n, hn, rfl⟩ := List.mem_map.mp hb
        have := of_decide_eq_true hb2
        have := hall n hn
        omega
      · intro h
        refine Classical.byContradiction fun hc => h fun n hn => ?_
        refine Classical.byContradiction fun hgt => hc ⟨true, List.mem_map.mpr ⟨n, hn, decide_eq_true (by omega)⟩, rfl⟩
    rw [eb]
    exact k H1 e1
abbrev sBadC : Stmt := top 122
theorem scBadC : FnScope ["_law_choice", "_law_part"] ["_law_choice"] (defScope sBadC) := ⟨rfl, rfl, rfl, by decide +kernel, rfl, by decide +kernel, by decide +kernel⟩
theorem ok_badC (F : FnP K "_law_bad_choice" sBadC f fd) (O__law_beyond : Own P w K mg base 1 "_law_beyond" ["_law_numbers"] (spBeyond K)) (g_all : mg "all" = none) : FnOk P w K mg base CX0 2 f fd ["_law_choice"] (spBadC K) := by
  have nd := scBadC.nd
  refine F.ok scBadC (fun vs H Q E h => ?_) (fun cdv A outer s H vs Q E hr h => ⟨_, PSs.nox (pss_cons (ps_if (pt_val (Hs.pe_own O__law_beyond hr (by first | decide | omega) (by rfl) (pa_cons (pe_slice (r := rSlT K) sl_tup (pv 0) po_none (po_some pe_int)) pa_nil))) (pss_one (ps_ret (pe_tup (pa_cons pe_str pa_nil)))) pss_nil)
  (pss_one (ps_ret (pe_ifExp (pt_not (pt_val (pe_callB (r := rAll K) (cr_all rfl) (by rfl) g_all (by decide +kernel) (pa_cons (pe_lc (own := [("_law_part", 1)]) rfl nd (Hs.pi_tupK (K := K) (pe_slice (r := rSlT K) sl_tup (pv 0) (po_some pe_int) po_none)) (blkOk_by (N := ["_law_choice", "_law_part"]) (sc := defScope (Hs.top 122)) (by decide +kernel)) (fun _ _ _ _ _ => (pg_name (i := 1) nd rfl (Or.inl rfl))) (fun _ _ _ _ _ => pts_nil) (fun _ _ _ _ _ => (pe_chain op_le op_le pe_int (pv 1) (pe_op op_pow pe_int pe_int)))) pa_nil)))) (pe_tup (pa_cons pe_str pa_nil)) pe_non)))), ?_⟩)
  · obtain ⟨a, c, rfl, _⟩ := h
    rfl
  · obtain ⟨a, c, rfl, hS, k⟩ := h
    have t6 : (10 : Int) ^ Int.toNat 6 = 1000000 := by decide
    refine q_when (b := decide (¬ InFar [c.1, c.2.1])) (fun H1 e1 Q' q' => ?_) (fun ht H1 e1 => ?_) (fun ht H1 e1 => ?_)
    · refine (eu_sl (K := K) (xs := chv c) (lo := none) (hi := some 2) (ev_var rfl) eo_none (eo_some ev_c) (ex_t e1 hS) (fun z => nomatch (show (2 : Nat) = 5 from z.2))) H1 (Ex.refl _) _ fun p6 H6 np6 e6 h6 => ?_
      exact ⟨p6, [c.1, c.2.1], rfl, st_of h6, by simp, fun H7 e7 => ⟨_, rfl, q' H7 (e6.trans e7)⟩⟩
    · exact ret_word rfl e1 (by unfold badC; rw [if_neg (of_decide_eq_true ht)]) k
    · have hF : InFar [c.1, c.2.1] := Classical.byContradiction fun z => (of_decide_eq_false ht) z
      obtain ⟨bs, hbs⟩ : ∃ bs : List Bool, bs = [decide (0 ≤ c.2.2.1) && decide (c.2.2.1 ≤ 1000000), decide (0 ≤ c.2.2.2.1) && decide (c.2.2.2.1 ≤ 1000000), decide (0 ≤ c.2.2.2.2) && decide (c.2.2.2.2 ≤ 1000000)] := ⟨_, rfl⟩
      have hal : bs.all id = decide (InLit 1000000 [c.2.2.1, c.2.2.2.1, c.2.2.2.2]) := by
        rw [Bool.eq_iff_iff, hbs]
        unfold InLit
        simp [and_assoc]
      refine ret_if (b := !(bs.all id)) (et_not (et_B (ev_allB ?_))) (fun hb H2 e2 => ?_) (fun hb H2 e2 => ?_)
      · rw [hbs]
        refine el_lcNT (fun i => .bl ([decide (0 ≤ c.2.2.1) && decide (c.2.2.1 ≤ 1000000), decide (0 ≤ c.2.2.2.1) && decide (c.2.2.2.1 ≤ 1000000), decide (0 ≤ c.2.2.2.2) && decide (c.2.2.2.2 ≤ 1000000)].getD i false)) (eu_sl (K := K) (xs := chv c) (lo := some 2) (hi := none) (ev_var rfl) (eo_some ev_c) eo_none (ex_t e1 hS) (fun z => nomatch (show (2 : Nat) = 0 from z.1))) (by show 3 ≤ 40000; decide) (fun _ => rfl) (fun i x H3 e3 hx => ?_)
        match i, hx with
        | 0, hx | 1, hx | 2, hx =>
          cases hx
          rw [← t6]
          exact ev_chain ev_c (ev_var rfl) (ev_op ev_c ev_c (rv_I ⟨by decide, by decide, by decide⟩))
      · rw [hal] at hb
        have hb : ¬ InLit 1000000 [c.2.2.1, c.2.2.2.1, c.2.2.2.2] := by simpa using hb
        exact ret_word rfl (e1.trans e2) (by unfold badC; rw [if_pos hF, if_neg hb]) k
      · rw [hal] at hb
        have hb : InLit 1000000 [c.2.2.1, c.2.2.2.1, c.2.2.2.2] := by simpa using hb
        have hk : badC c = none := by unfold badC; rw [if_pos hF, if_pos hb]
        rw [hk] at k
        exact s_ret ev_c fun H3 e3 => k _ _ ((e1.trans e2).trans e3) rfl
end
end Hs
namespace Hs
open PySem PySem.Spec PyProof.Rows L2 Evl
/-! ### what is due of a lamp -/
theorem el_listT {K : PySem.W.Frag} {t : TE} {σ : L2.St} {H : Hp} {p : Addr} {xs : List V} (ha : Ev t σ H (.ref p)) (h : SqT K H p xs) : EvL (tCB (rListS K) (tCons t tNil)) σ H xs := fun H1 e Q q =>
  ha H1 e _ fun H2 e2 => ⟨p, xs, rfl, .inr (ex_t (e.trans e2) h), fun q' hq => q q' _ (fresh_back e2 hq) (e2.trans (Ex.new hq)) upd_same⟩
def spProdW (K : PySem.W.Frag) : Sp := fun vs H Q _ => ∃ (a : Addr) (cs : List Int), vs = [.ref a] ∧ SqL K H a (iv cs) ∧ CntW cs ∧ RetV (.int (PR cs.reverse)) H Q
theorem nOn_stOf (M : Md) : nOn ((stOf M).fl.lamps.map (·.2)) = nOn (lsM M) := by
  unfold nOn lsM
  show ((M.lamps.map fun x => (x.1, lmF x.2)).map (·.2)).map _ = (M.lamps.map _).map _
  rw [List.map_map, List.map_map, List.map_map]
  refine List.map_congr_left fun x _ => ?_
  show ((x.2.1.map _).length, _) = (x.2.1.length, _)
  rw [List.length_map] <;> rfl
def DeedU.chcs : DeedU → List Chc
  | .one (.lamp c) => [c]
  | .uns cs => cs
  | _ => []
def DeedU.isL : DeedU → Prop
  | .one (.lamp _) => True
  | .uns _ => True
  | _ => False
def spDueL (K : PySem.W.Frag) : Sp := fun vs H Q _ => ∃ (m d : Addr) (M : Md) (D : DeedU), vs = [.ref m, .ref d] ∧ MdA K 20 H m M ∧ D.At K H d ∧ D.isL ∧ D.fit ∧ OkC (stOf M) ∧ PR (cntsS (stOf M)).reverse ≤ 200 ∧ RetB (badU (stOf M) D) H Q
theorem badCs_one (c : Chc) : badCs [c] = badC c := by
  unfold badCs
  rw [List.findSome?_cons]
  cases badC c <;> rfl
theorem badU_L {S : Stt} {D : DeedU} (hl : D.isL) (hp : PR (cntsS S).reverse ≤ 200) (hm : ∀ cs, D = .uns cs → ¬ (cs.length < 2 ∨ 6 < cs.length ∨ ¬ cs.Nodup)) : badU S D = match badCs D.chcs with
    | some w => some w
    | none => if 200 < PR (cntsS S).reverse * D.chcs.length ∨ 12 ≤ S.fl.lamps.length then some ("full" : Str) else none := by
  cases D with
  | uns cs =>
    rw [badU_uns, if_neg (hm cs rfl)]
    rfl
  | one D =>
    cases D with
    | lamp c =>
      show badD S (.lamp c) = match badCs [c] with
        | some w => some w
        | none => if 200 < PR (cntsS S).reverse * (1 : Nat) ∨ 12 ≤ S.fl.lamps.length then some ("full" : Str) else none
      rw [badCs_one]
      show (match badC c with | some w => some w | none => if 12 ≤ S.fl.lamps.length then some ("full" : Str) else none) = _
      cases badC c with
      | some w => rfl
      | none =>
        have e : (200 < PR (cntsS S).reverse * (1 : Nat) ∨ 12 ≤ S.fl.lamps.length) ↔ 12 ≤ S.fl.lamps.length := by
          constructor
          · rintro (q | q)
            · omega
            · exact q
          · exact .inr
        simp only [e]
    | post B => exact hl.elim
    | pane a b z => exact hl.elim
section
variable {P : Program} {w : World} {K : PySem.W.Frag} {mg : Str → Option Value} {base : Heap} {f : Addr} {fd : FuncData}
abbrev sProd : Stmt := top 124
theorem scProd : FnScope ["_law_counts_here", "_law_found", "_law_many"] ["_law_counts_here"] (defScope sProd) := ⟨rfl, rfl, rfl, by decide +kernel, rfl, by decide +kernel, by decide +kernel⟩
theorem ok_prodW (F : FnP K "_law_product" sProd f fd) : FnOk P w K mg base CX0 1 f fd ["_law_counts_here"] (spProdW K) := by
  have nd := scProd.nd
  refine F.ok scProd (fun vs H Q E h => ?_) (fun cdv A outer s H vs Q E hr h => ⟨_, PSs.nox (pss_cons (ps_set (i := 1) nd rfl (.inl rfl) pe_int)
  (pss_cons (ps_for PassesOwn.never rfl (pi_list (pv 0)) (pg_name (i := 2) nd rfl (.inl rfl)) (pss_one (ps_set (i := 1) nd rfl (.inl rfl) (pe_op op_mulW (pv 1) (pv 2)))))
  (pss_one (ps_ret (pv 1))))), ?_⟩)
  · obtain ⟨a, cs, rfl, _⟩ := h
    rfl
  · obtain ⟨a, cs, rfl, hS, hC, k⟩ := h
    refine q_asg ev_c fun H1 e1 => ?_
    refine q_forLn (ev_var rfl) (ex_l e1 hS) (fun i σ' H' => Ex H1 H' ∧ ∃ v2, σ' = [some (.ref a), some (.int (PR (cs.take i).reverse)), v2]) (fun H2 e2 => ⟨e2, none, rfl⟩) (fun i σ' H' _ p => ex_l (e1.trans p.1) hS) (fun i x σ' H' hx p => ?_) (fun σ' H' p => ?_)
    · obtain ⟨e2, v2, rfl⟩ := p
      obtain ⟨c, rfl, hc⟩ := iv_at hx
      obtain ⟨c1, c2⟩ := hC.2 c (List.mem_of_getElem? hc)
      refine s_asg (ev_op (ev_var rfl) (ev_var rfl) (rv_I (mul64 (PR_64 (hC.take i)) (by omega)))) fun H3 e3 => ⟨e2.trans e3, some (.int c), ?_⟩
      rw [take_rev hc]
      rfl
    · obtain ⟨e2, v2, rfl⟩ := p
      rw [List.length_map, List.take_length]
      exact s_ret (ev_var rfl) fun H3 e3 => k H3 ((e1.trans e2).trans e3)
abbrev sDueL : Stmt := top 125
theorem scDueL : FnScope ["_law_m", "_law_deed", "_law_choices", "_law_choice", "_law_bad", "_law_many"] ["_law_m", "_law_deed"] (defScope sDueL) := ⟨rfl, rfl, rfl, by decide +kernel, rfl, by decide +kernel, by decide +kernel⟩
theorem ok_dueL (F : FnP K "_law_due_lamp" sDueL f fd) (O__law_bad_choice : Own P w K mg base 2 "_law_bad_choice" ["_law_choice"] (spBadC K)) (O__law_product : Own P w K mg base 1 "_law_product" ["_law_counts_here"] (spProdW K)) (O__law_counts : Own P w K mg base 1 "_law_counts" ["_law_m"] (spCountsM K 20)) (g_len : mg "len" = none) (g_set : mg "set" = none) (g_list : mg "list" = none) : FnOk P w K mg base CX0 3 f fd ["_law_m", "_law_deed"] (spDueL K) := by
  have nd := scDueL.nd
  refine F.ok scDueL (fun vs H Q E h => ?_) (fun cdv A outer s H vs Q E hr h => ⟨_, PSs.nox (pss_cons (ps_set (i := 2) nd rfl (.inl rfl) (pe_lst (pa_cons (pe_slice (r := rSlT K) sl_tup (pv 1) (po_some pe_int) po_none) pa_nil)))
  (Evl.pss_cut (ps_if (pt_cmpR op_eq (pe_ix (r := rIxT K) ix_tup (pv 1) pe_int (fun _ _ => rfl)) pe_str (nomark _)) (pss_cons (ps_set (i := 2) nd rfl (.inl rfl) (pe_callTy (r := Evl.rListS K) call_list_of (by rfl) g_list (by decide +kernel) (pa_cons (pe_ix (r := rIxT K) ix_tup (pv 1) pe_int (fun _ _ => rfl)) pa_nil)))
  (pss_one (ps_if (PW.pt (pw_or (pt_not (pt_chain op_le op_le pe_int (pe_callB (r := Evl.rLenS K) call_len_seq (by rfl) g_len PySem.boot_len (pa_cons (pv 2) pa_nil)) pe_int)) (pw_or1 (pt_cmpR op_lt (pe_callB (r := Hs.rLenT K P w) Hs.cr_lenT (by rfl) g_len PySem.boot_len (pa_cons (pe_callTy (r := Hs.rSetT K P w) (Hs.cr_setT rfl (Hs.un64 hr)) (by rfl) g_set (by decide +kernel) (pa_cons (pv 2) pa_nil)) pa_nil)) (pe_callB (r := Evl.rLenS K) call_len_seq (by rfl) g_len PySem.boot_len (pa_cons (pv 2) pa_nil)) (nomark _))))) (pss_one (ps_ret (pe_tup (pa_cons pe_str pa_nil)))) pss_nil))) pss_nil)
  (pss_cons (ps_for PassesOwn.never rfl (pi_list (pv 2)) (pg_name (i := 3) nd rfl (.inl rfl)) (pss_cons (ps_set (i := 4) nd rfl (.inl rfl) (Hs.pe_own O__law_bad_choice hr (by first | decide | omega) (by rfl) (pa_cons (pv 3) pa_nil)))
  (pss_one (ps_if (pt_cmpR op_notN (pv 4) pe_non (nomark _)) (pss_one (ps_ret (pv 4))) pss_nil))))
  (pss_cons (ps_set (i := 5) nd rfl (.inl rfl) (pe_op op_mulW (pe_callB (r := Evl.rLenS K) call_len_seq (by rfl) g_len PySem.boot_len (pa_cons (pv 2) pa_nil)) (Hs.pe_own O__law_product hr (by first | decide | omega) (by rfl) (pa_cons (Hs.pe_own O__law_counts hr (by first | decide | omega) (by rfl) (pa_cons (pv 0) pa_nil)) pa_nil))))
  (pss_one (ps_ret (pe_ifExp (PW.pt (pw_or (pt_cmpR op_gt (pe_callB (r := rLenF) call_lenF (by rfl) g_len PySem.boot_len (pa_cons (pe_dget (Hs.un1 hr) (pv 0) pe_str (fun _ _ => rfl)) pa_nil)) pe_int (nomark _)) (pw_or1 (pt_cmpR op_gt (pv 5) pe_int (nomark _))))) (pe_tup (pa_cons pe_str pa_nil)) pe_non))))))), ?_⟩)
  · obtain ⟨m, d, M, D, rfl, _⟩ := h
    rfl
  · obtain ⟨m, d, M, D, rfl, hM, hd, hl, hfit, hok, hpr, k⟩ := h
    obtain ⟨wd, xs, hxs, at0, hwu, hwl⟩ : ∃ (wd : Str) (xs : List V), SqT K H d (.str wd :: xs) ∧ atI (V.str wd :: xs) 0 = some (.str wd) ∧ (∀ cs, D = .uns cs → wd = "unsure" ∧ ∃ ch, xs = [.ref ch] ∧ ChcsR H ch cs) ∧ ∀ c, D = .one (.lamp c) → wd = "lamp" ∧ xs = chv c := by
      cases D with
      | uns cs =>
        obtain ⟨ch, h1, h2⟩ := hd
        refine ⟨_, _, h1, rfl, fun cs' e => ?_, fun c e => by cases e⟩
        cases e
        exact ⟨rfl, ch, rfl, h2⟩
      | one D =>
        cases D with
        | lamp c =>
          refine ⟨_, _, hd, rfl, fun cs' e => (by cases e), fun c' e => ?_⟩
          cases e
          exact ⟨rfl, rfl⟩
        | post B => exact hl.elim
        | pane a b z => exact hl.elim
    have hf := hM.few
    refine (eu_sl (K := K) (lo := some 1) (hi := none) (ev_var rfl) (eo_some ev_c) eo_none hxs (fun z => nomatch (show (1 : Nat) = 0 from z.1))) H (Ex.refl _) _ fun p1 H1 np1 e1 h1 => ?_
    refine ⟨sz_of (by simp), fun fo hfo => ?_⟩
    have x1 := Ex.new (o := .lst [V.ref p1]) hfo
    have e01 := e1.trans x1
    have h1' := x1 _ _ h1
    have hf1 := upd_same (H := H1) (a := fo) (o := .lst [V.ref p1])
    generalize upd H1 fo (.lst [V.ref p1]) = H2 at x1 e01 h1' hf1 ⊢
    dsimp only [gName, List.set]
    refine q_cut (M := fun σ' H3 => ∃ (fo : Addr) (ps : List Addr), σ' = [some (.ref m), some (.ref d), some (.ref fo), none, none, none] ∧ Ex H H3 ∧ H3 fo = some (.lst (ps.map V.ref)) ∧ ChR H3 ps D.chcs ∧ D.chcs.length ≤ 6 ∧ ∀ cs, D = .uns cs → ¬ (cs.length < 2 ∨ 6 < cs.length ∨ ¬ cs.Nodup)) ?_ ?_
    · refine s_when (b := decide (wd = "unsure")) (et_is (et_test (ev_op (ev_ixt rfl (ex_t e01 hxs) at0) ev_c (rv_eq rfl))) (by rw [Bool.eq_iff_iff]; simp)) (fun ht H3 e3 => ?_) (fun ht H3 e3 => ?_)
      · have hwd := of_decide_eq_true ht
        cases D with
        | one D =>
          cases D with
          | lamp c => exact absurd ((hwl c rfl).1.symm.trans hwd) (by decide +kernel)
          | post B => exact hl.elim
          | pane a b z => exact hl.elim
        | uns cs =>
          obtain ⟨_, ch, hxe, ps0, hch0, hpl, hps⟩ := hwu cs rfl
          subst hxe
          have e03 := e01.trans e3
          have hz : cs.length ≤ 60 := hfit
          refine q_asgL (el_listT (ev_ixt rfl (ex_t e03 hxs) rfl) (st_of (e03 _ _ hch0))) fun fl H4 nfl e4 hfl => ?_
          dsimp only [gName, List.set]
          have e04 := e03.trans e4
          have hl1 : ((ps0.map V.ref).length : Int) = (cs.length : Int) := by rw [List.length_map, hpl]
          obtain ⟨z1, z2⟩ := zip_chI hpl
          have hlen : Ev (tCB (rLenS K) (tCons (tVar 2) tNil)) [some (.ref m), some (.ref d), some (.ref fl), none, none, none] H4 (.int (cs.length : Int)) := by
            have z := ev_len (K := K) (σ := [some (.ref m), some (.ref d), some (.ref fl), none, none, none]) (ta := tVar 2) (ev_var rfl) (sq_of hfl)
            rwa [hl1] at z
          have hset : Ev (tCB (rLenT K P w) (tCons (tCB (rSetT K P w) (tCons (tVar 2) tNil)) tNil)) [some (.ref m), some (.ref d), some (.ref fl), none, none, none] H4 (.int ((unlike (cs.map chI)).length : Nat)) := by
            have z := ev_lenset (K := K) (P := P) (w := w) (σ := [some (.ref m), some (.ref d), some (.ref fl), none, none, none]) (H := H4) (l := fl) (ks := ps0.zip (cs.map chI)) (te := tVar 2) (ev_var rfl) (.inl (by rw [z1]; exact sq_of hfl)) (fun p hp => by
              obtain ⟨i, c, a1, a2, a3⟩ := zip_at hp
              rw [a3]
              exact st_of (e04 _ _ (hps i p.1 c a1 a2))) (by rw [List.length_zip, List.length_map]; omega)
            rwa [z2] at z
          refine s_when (b := decide (cs.length < 2 ∨ 6 < cs.length ∨ ¬ cs.Nodup)) (et_is (et_or (et_not (et_test (ev_chain ev_c hlen ev_c))) fun _ => et_test (ev_op hset hlen rv_I0)) ?_) (fun ht H5 e5 => ?_) (fun ht H5 e5 => ?_)
          · by_cases hn : cs.Nodup
            · have e := unlike_eq (chI_nd.mpr hn)
              rw [e, List.length_map, Bool.eq_iff_iff]
              simp [hn]
              omega
            · have e := unlike_lt (fun z => hn (chI_nd.mp z))
              rw [List.length_map] at e
              rw [Bool.eq_iff_iff]
              simp [hn]
              omega
          · exact ret_word rfl (e04.trans e5) (by rw [badU_uns, if_pos (of_decide_eq_true ht)]) k
          · have hm := of_decide_eq_false ht
            exact ⟨fl, ps0, rfl, e04.trans e5, e5 _ _ hfl, ⟨hpl, fun i p c a b => (e04.trans e5) _ _ (hps i p c a b)⟩, by show cs.length ≤ 6; omega, fun cs' e => by cases e; exact hm⟩
      · have hwd := of_decide_eq_false ht
        cases D with
        | uns cs => exact absurd (hwu cs rfl).1 hwd
        | one D =>
          cases D with
          | post B => exact hl.elim
          | pane a b z => exact hl.elim
          | lamp c =>
            have hxc := (hwl c rfl).2
            subst hxc
            refine ⟨fo, [p1], rfl, e01.trans e3, e3 _ _ hf1, ⟨rfl, fun i p c' a b => ?_⟩, by show 1 ≤ 6; decide, fun cs e => by cases e⟩
            match i, a, b with
            | 0, a, b =>
              cases a
              cases b
              exact e3 _ _ h1'
            | i + 1, a, b => cases a
    · rintro σ' H3 ⟨fo, ps, rfl, e3, hfo3, hch, hc6, hmm⟩
      have hU := badU_L hl hpr hmm
      obtain ⟨hpl, hps⟩ := hch
      refine q_forLn (ev_var rfl) (sq_of hfo3) (fun i σ' H' => Ex H3 H' ∧ badCs (D.chcs.take i) = none ∧ ∃ v3 v4, σ' = [some (.ref m), some (.ref d), some (.ref fo), v3, v4, none]) (fun H4 e4 => ⟨e4, by rw [List.take_zero] <;> rfl, none, none, rfl⟩) (fun i σ' H' _ p => sq_of (p.1 _ _ hfo3)) (fun i x σ' H' hx p => ?_) (fun σ' H' p => ?_)
      · obtain ⟨e, hb, v3, v4, rfl⟩ := p
        rw [List.getElem?_map] at hx
        obtain ⟨pc, hpc, rfl⟩ := Option.map_eq_some_iff.mp hx
        have hi : i < ps.length := (List.getElem?_eq_some_iff.mp hpc).1
        obtain ⟨c, hc⟩ : ∃ c, D.chcs[i]? = some c := ⟨_, List.getElem?_eq_getElem (by omega)⟩
        have hp := hps i pc c hpc hc
        dsimp only [gName, List.set]
        refine ⟨_, rfl, pc, c, rfl, st_of (e _ _ hp), fun v H4 e4 hv => ?_⟩
        have e34 := e.trans e4
        dsimp only [gName, List.set]
        cases hbc : badC c with
        | none =>
          rw [hbc] at hv
          cases hv
          refine s_when (b := false) (et_is (et_test (fun H5 e5 Q' q' => ⟨_, rfl, rfl, q' H5 (Ex.refl H5)⟩)) rfl) (fun ht => nomatch ht) (fun ht H5 e5 => ?_)
          exact ⟨e34.trans e5, badCs_next hb hc hbc, _, _, rfl⟩
        | some wd' =>
          rw [hbc] at hv
          obtain ⟨pw, rfl, hpw⟩ := hv
          refine s_when (b := true) (et_is (et_test (fun H5 e5 Q' q' => ⟨_, rfl, rfl, q' H5 (Ex.refl H5)⟩)) rfl) (fun ht H5 e5 => ?_) (fun ht => nomatch ht)
          refine s_ret (ev_var rfl) fun H6 e6 => k _ _ (((e3.trans e34).trans e5).trans e6) ?_
          rw [hU, badCs_at hb hc hbc]
          exact ⟨pw, rfl, (e5.trans e6) _ _ hpw⟩
      · obtain ⟨e, hb, v3, v4, rfl⟩ := p
        rw [List.length_map, hpl, List.take_length] at hb
        rw [hb] at hU
        have e03 := e3.trans e
        have hM3 := hM.ext e03
        have hl1 : ((ps.map V.ref).length : Int) = (D.chcs.length : Int) := by rw [List.length_map, hpl]
        have hC : CntW (cnts (nOn (lsM M))) := by
          have z := hok.c
          unfold cntsS at z
          rwa [nOn_stOf] at z
        have hpr2 := hpr
        have hcs : cntsS (stOf M) = cnts (nOn (lsM M)) := by
          unfold cntsS
          rw [nOn_stOf]
        obtain ⟨T, ⟨D5, fm, fT⟩, hc, hk, hll, hp, hn⟩ := hM3.ex
        have m1 : ("lamp" : Str) ∈ mW := by decide +kernel
        have lenN : Ev (tCB (rLenS K) (tCons (tVar 2) tNil)) [some (.ref m), some (.ref d), some (.ref fo), v3, v4, none] H' (.int (D.chcs.length : Int)) := by
          have z := ev_len (K := K) (σ := [some (.ref m), some (.ref d), some (.ref fo), v3, v4, none]) (ta := tVar 2) (ev_var rfl) (sq_of (e _ _ hfo3))
          rwa [hl1] at z
        refine lenN H' (Ex.refl _) _ fun H4 e4 => ?_
        refine ⟨_, rfl, m, M, rfl, hM3.ext e4, fun pc H5 np5 e5 hp5 => ?_⟩
        refine ⟨pc, cntsS (stOf M), rfl, sq_of (by rw [hcs]; exact hp5), hok.c, fun H6 e6 => ?_⟩
        refine ⟨_, _, rfl, rfl, ?_, ?_⟩
        · exact mul64 (by omega) (PR_64 hok.c.rev)
        dsimp only [gName, List.set]
        have e46 := (e4.trans e5).trans e6
        have e06 := e03.trans e46
        have hll2 : (T "lamp").length = (stOf M).fl.lamps.length := by
          show _ = (M.lamps.map _).length
          rw [List.length_map]
          exact hll.1
        refine ret_if (b := decide (11 < (T "lamp").length) || decide (200 < (D.chcs.length : Int) * PR (cntsS (stOf M)).reverse)) (et_is (et_or (et_test (b := decide (11 < (T "lamp").length)) ?_) fun _ => et_test (ev_op (ev_var rfl) ev_c rv_I0)) (by simp)) (fun hb H7 e7 => ?_) (fun hb H7 e7 => ?_)
        · intro H7 e7 Q' q'
          refine (ev_fz (key := .inr "lamp") (ev_var rfl) ev_c (fm.ext (e46.trans e7)) (valV_row m1)) H7 (Ex.refl _) _ fun H8 e8 => ?_
          exact ⟨_, _, rfl, ((fT _ m1).ext ((e46.trans e7).trans e8)).rd, _, _, rfl, rfl, by
            have z := q' H8 e8
            rwa [show decide (11 < (T "lamp").length) = decide ((11 : Int) < ((T "lamp").length : Int)) by rw [Bool.eq_iff_iff]; simp; omega] at z⟩
        · rw [Bool.or_eq_true, decide_eq_true_eq, decide_eq_true_eq] at hb
          refine ret_word rfl (e06.trans e7) ?_ k
          rw [hU]
          refine if_pos (hb.elim (fun q => .inr (by omega)) fun q => .inl ?_)
          rw [Int.mul_comm]
          exact q
        · rw [Bool.or_eq_false_iff, decide_eq_false_iff_not, decide_eq_false_iff_not] at hb
          refine s_ret ev_c fun H8 e8 => k _ _ ((e06.trans e7).trans e8) ?_
          rw [hU]
          have hnn : ¬ (200 < PR (cntsS (stOf M)).reverse * (D.chcs.length : Int) ∨ 12 ≤ (stOf M).fl.lamps.length) := fun q => q.elim (fun q => hb.2 (by rw [Int.mul_comm]; exact q)) fun q => hb.1 (by omega)
          show BadV H8 V.non (if 200 < PR (cntsS (stOf M)).reverse * (D.chcs.length : Int) ∨ 12 ≤ (stOf M).fl.lamps.length then some ("full" : Str) else none)
          rw [if_neg hnn]
          rfl
end
end Hs
namespace Hs
open PySem PySem.Spec PyProof.Rows L2 Evl
/-! ### what is due of a post or a pane; its number -/
theorem ev_eqPtU {K : PySem.W.Frag} {σ : L2.St} {H : Hp} {tx ty : TE} {x y : Pt} (hx : EvU tx σ H (prV x)) (hy : EvU ty σ H (prV y)) : Ev (tOp (rEqD K) tx ty) σ H (.bl (decide (x = y))) := fun H1 e Q k =>
  hx H1 e _ fun p H2 np e2 hp => hy H2 (e.trans e2) _ fun q H3 nq e3 hq => ⟨_, _, dp_pt (st_of (e3 _ _ hp)), dp_pt (st_of hq), rfl, rfl, by rw [PySem.W.Datum.eqv]; exact k H3 (e2.trans e3)⟩
theorem et_noW {σ : L2.St} {H : Hp} {te : TE} {t : TT} {u v : Str} (h : Ev te σ H (.str u)) (hn : u ≠ v) : EvT (tAnd (tTest (tOp rEq te (tC (.str v)))) t) σ H false := by
  have z : decide (V.str u = .str v) = false := decide_eq_false fun e => hn (V.str.inj e)
  exact et_is (et_and (b := false) (et_test (ev_op h (ev_c (v := .str v)) (rv_eq rfl))) fun y => by rw [z] at y; cases y) (by rw [z] <;> rfl)
def Deed.isT : Deed → Prop
  | .lamp _ => False
  | _ => True
def spDueT (K : PySem.W.Frag) : Sp := fun vs H Q _ => ∃ (m d : Addr) (M : Md) (D : Deed), vs = [.ref m, .ref d] ∧ MdA K 20 H m M ∧ SqT K H d D.vals ∧ D.isT ∧ RetB (badD (stOf M) D) H Q
section
variable {P : Program} {w : World} {K : PySem.W.Frag} {mg : Str → Option Value} {base : Heap} {f : Addr} {fd : FuncData}
abbrev sDueT : Stmt := top 126
theorem scDueT : FnScope ["_law_m", "_law_deed"] ["_law_m", "_law_deed"] (defScope sDueT) := ⟨rfl, rfl, rfl, by decide +kernel, rfl, by decide +kernel, by decide +kernel⟩
theorem ok_dueT (F : FnP K "_law_due_thing" sDueT f fd) (O__law_beyond : Own P w K mg base 1 "_law_beyond" ["_law_numbers"] (spBeyond K)) (g_len : mg "len" = none) : FnOk P w K mg base CX0 2 f fd ["_law_m", "_law_deed"] (spDueT K) := by
  have nd := scDueT.nd
  refine F.ok scDueT (fun vs H Q E h => ?_) (fun cdv A outer s H vs Q E hr h => ⟨_, PSs.nox (pss_cons (ps_if (pt_val (Hs.pe_own O__law_beyond hr (by first | decide | omega) (by rfl) (pa_cons (pe_slice (r := rSlT K) sl_tup (pv 1) (po_some pe_int) (po_some pe_int)) pa_nil))) (pss_one (ps_ret (pe_tup (pa_cons pe_str pa_nil)))) pss_nil)
  (pss_cons (ps_if (PW.pt (pw_and (pt_cmpR op_eq (pe_ix (r := rIxT K) ix_tup (pv 1) pe_int (fun _ _ => rfl)) pe_str (nomark _)) (pw_and1 (PW.pt (pw_or (pt_cmpR op_gt (pe_ix (r := rIxT K) ix_tup (pv 1) pe_int (fun _ _ => rfl)) (pe_ix (r := rIxT K) ix_tup (pv 1) pe_int (fun _ _ => rfl)) (nomark _)) (pw_or1 (pt_cmpR op_gt (pe_ix (r := rIxT K) ix_tup (pv 1) pe_int (fun _ _ => rfl)) (pe_ix (r := rIxT K) ix_tup (pv 1) pe_int (fun _ _ => rfl)) (nomark _)))))))) (pss_one (ps_ret (pe_tup (pa_cons pe_str pa_nil)))) pss_nil)
  (pss_cons (ps_if (PW.pt (pw_and (pt_cmpR op_eq (pe_ix (r := rIxT K) ix_tup (pv 1) pe_int (fun _ _ => rfl)) pe_str (nomark _)) (pw_and1 (pt_cmpR (op_eqD hr.units) (pe_slice (r := rSlT K) sl_tup (pv 1) (po_some pe_int) (po_some pe_int)) (pe_slice (r := rSlT K) sl_tup (pv 1) (po_some pe_int) (po_some pe_int)) (nomark _))))) (pss_one (ps_ret (pe_tup (pa_cons pe_str pa_nil)))) pss_nil)
  (pss_cons (ps_if (PW.pt (pw_and (pt_cmpR op_eq (pe_ix (r := rIxT K) ix_tup (pv 1) pe_int (fun _ _ => rfl)) pe_str (nomark _)) (pw_and1 (pt_cmpR op_notIn_seq (pe_ix (r := rIxT K) ix_tup (pv 1) pe_int (fun _ _ => rfl)) (pe_tup (pa_cons pe_str (pa_cons pe_str (pa_cons pe_str (pa_cons pe_str (pa_cons pe_str (pa_cons pe_str (pa_cons pe_str (pa_cons pe_str pa_nil))))))))) (by rfl))))) (pss_one (ps_ret (pe_tup (pa_cons pe_str pa_nil)))) pss_nil)
  (pss_one (ps_ret (pe_ifExp (pt_cmpR op_gt (pe_callB (r := rLenF) call_lenF (by rfl) g_len PySem.boot_len (pa_cons (pe_dget (Hs.un1 hr) (pv 0) (pe_ix (r := rIxT K) ix_tup (pv 1) pe_int (fun _ _ => rfl)) (fun _ _ => rfl)) pa_nil)) pe_int (nomark _)) (pe_tup (pa_cons pe_str pa_nil)) pe_non))))))), ?_⟩)
  · obtain ⟨m, d, M, D, rfl, _⟩ := h
    rfl
  · obtain ⟨m, d, M, D, rfl, hM, hd, hl, k⟩ := h
    obtain ⟨T, ⟨D5, fm, fT⟩, hc, hk, hll, hp, hn⟩ := hM.ex
    have m2 : ("post" : Str) ∈ mW := by decide +kernel
    have m3 : ("pane" : Str) ∈ mW := by decide +kernel
    cases D with
    | lamp c => exact hl.elim
    | post B =>
      replace hd : SqT K H d (.str "post" :: iv [B.left, B.low, B.right, B.high]) := hd
      have at0 : atI (V.str "post" :: iv [B.left, B.low, B.right, B.high]) 0 = some (.str "post") := rfl
      refine q_when (b := decide (¬ InFar [B.left, B.low, B.right, B.high])) (fun H1 e1 Q' q' => ?_) (fun ht H1 e1 => ?_) (fun ht H1 e1 => ?_)
      · refine (eu_sl (K := K) (lo := some 1) (hi := some 5) (ev_var rfl) (eo_some ev_c) (eo_some ev_c) (ex_t e1 hd) (fun z => nomatch (show (1 : Nat) = 0 from z.1))) H1 (Ex.refl _) _ fun p6 H6 np6 e6 h6 => ?_
        exact ⟨p6, [B.left, B.low, B.right, B.high], rfl, st_of h6, by simp, fun H7 e7 => ⟨_, rfl, q' H7 (e6.trans e7)⟩⟩
      · exact ret_word rfl e1 (by rw [bad_p, if_pos (of_decide_eq_true ht)]) k
      · have hF := of_decide_eq_false ht
        refine q_when (b := decide (¬ (B.left ≤ B.right ∧ B.low ≤ B.high))) (et_is (et_and (et_test (ev_op (ev_ixt rfl (ex_t e1 hd) at0) ev_c (rv_eq rfl))) fun _ => et_or (et_test (ev_op (ev_ixt rfl (ex_t e1 hd) rfl) (ev_ixt rfl (ex_t e1 hd) rfl) rv_I0)) fun _ => et_test (ev_op (ev_ixt rfl (ex_t e1 hd) rfl) (ev_ixt rfl (ex_t e1 hd) rfl) rv_I0)) ?_) (fun ht2 H2 e2 => ?_) (fun ht2 H2 e2 => ?_)
        · rw [Bool.eq_iff_iff]
          simp <;> omega
        · exact ret_word rfl (e1.trans e2) (by rw [bad_p, if_neg hF, if_pos (of_decide_eq_true ht2)]) k
        · have hB := of_decide_eq_false ht2
          have e12 := e1.trans e2
          refine q_when (b := false) (et_noW (ev_ixt rfl (ex_t e12 hd) at0) (by decide +kernel)) (fun ht => nomatch ht) (fun _ H3 e3 => ?_)
          have e13 := e12.trans e3
          refine q_when (b := false) (et_noW (ev_ixt rfl (ex_t e13 hd) at0) (by decide +kernel)) (fun ht => nomatch ht) (fun _ H4 e4 => ?_)
          have e14 := e13.trans e4
          refine ret_if (b := decide (11 < M.posts.length)) (et_test fun H7 e7 Q' q' => ?_) (fun hb H7 e7 => ?_) (fun hb H7 e7 => ?_)
          · refine (ev_fz (key := .inr "post") (ev_var rfl) (ev_ixt rfl (ex_t (e14.trans e7) hd) at0) (fm.ext (e14.trans e7)) (valV_row m2)) H7 (Ex.refl _) _ fun H8 e8 => ?_
            exact ⟨_, _, rfl, ((fT _ m2).ext ((e14.trans e7).trans e8)).rd, _, _, rfl, rfl, by
              have z := q' H8 e8
              rwa [show decide (11 < M.posts.length) = decide ((11 : Int) < ((T "post").length : Int)) by rw [Bool.eq_iff_iff, hp.1]; simp; omega] at z⟩
          · exact ret_word rfl (e14.trans e7) (by rw [bad_p, if_neg hF, if_neg hB, if_pos (show 12 ≤ (stOf M).fl.posts.length from of_decide_eq_true hb)]) k
          · have hb := of_decide_eq_false hb
            refine s_ret ev_c fun H8 e8 => k _ _ ((e14.trans e7).trans e8) ?_
            have hnn : ¬ 12 ≤ (stOf M).fl.posts.length := fun z => hb z
            rw [bad_p, if_neg hF, if_neg hB, if_neg hnn]
            rfl
    | pane a b z =>
      replace hd : SqT K H d [.str "pane", .int a.1, .int a.2, .int b.1, .int b.2, .str z] := hd
      have at0 : atI [V.str "pane", .int a.1, .int a.2, .int b.1, .int b.2, .str z] 0 = some (.str "pane") := rfl
      have hIF : InFar [a.1, a.2, b.1, b.2] ↔ InFar [a.1, a.2] ∧ InFar [b.1, b.2] := by
        unfold InFar
        simp [and_assoc]
      refine q_when (b := decide (¬ (InFar [a.1, a.2] ∧ InFar [b.1, b.2]))) (fun H1 e1 Q' q' => ?_) (fun ht H1 e1 => ?_) (fun ht H1 e1 => ?_)
      · refine (eu_sl (K := K) (lo := some 1) (hi := some 5) (ev_var rfl) (eo_some ev_c) (eo_some ev_c) (ex_t e1 hd) (fun z => nomatch (show (1 : Nat) = 0 from z.1))) H1 (Ex.refl _) _ fun p6 H6 np6 e6 h6 => ?_
        exact ⟨p6, [a.1, a.2, b.1, b.2], rfl, st_of h6, by simp, fun H7 e7 => ⟨_, rfl, by simp only [hIF]; exact q' H7 (e6.trans e7)⟩⟩
      · exact ret_word rfl e1 (by rw [bad_n, if_pos (of_decide_eq_true ht)]) k
      · have hF := of_decide_eq_false ht
        refine q_when (b := false) (et_noW (ev_ixt rfl (ex_t e1 hd) at0) (by decide +kernel)) (fun ht => nomatch ht) (fun _ H2 e2 => ?_)
        have e12 := e1.trans e2
        have yes : ∀ {H1 : Hp}, Ex H H1 → EvT (tTest (tOp rEq (tOp (rIxT K) (tVar 1) (tC (.int 0))) (tC (.str "pane")))) [some (.ref m), some (.ref d)] H1 true := fun e => et_is (et_test (ev_op (ev_ixt rfl (ex_t e hd) at0) (ev_c (v := .str "pane")) (rv_eq rfl))) (by decide +kernel)
        refine q_when (b := decide (a = b)) (et_is (et_and (yes e12) fun _ => et_test (ev_eqPtU (x := a) (y := b) (eu_sl (K := K) (lo := some 1) (hi := some 3) (ev_var rfl) (eo_some ev_c) (eo_some ev_c) (ex_t e12 hd) (fun z => nomatch (show (1 : Nat) = 0 from z.1))) (eu_sl (K := K) (lo := some 3) (hi := some 5) (ev_var rfl) (eo_some ev_c) (eo_some ev_c) (ex_t e12 hd) (fun z => nomatch (show (3 : Nat) = 0 from z.1))))) (Bool.true_and _)) (fun ht2 H3 e3 => ?_) (fun ht2 H3 e3 => ?_)
        · exact ret_word rfl (e12.trans e3) (by rw [bad_n, if_neg hF, if_pos (of_decide_eq_true ht2)]) k
        · have hab := of_decide_eq_false ht2
          have e13 := e12.trans e3
          refine q_when (b := !(good z)) (et_is (et_and (yes e13) fun _ => et_test (ev_niU (xs := siftsV) (ev_ixt (xs := [V.str "pane", .int a.1, .int a.2, .int b.1, .int b.2, .str z]) rfl (ex_t e13 hd) rfl) (eu_tup (ea_cons ev_c (ea_cons ev_c (ea_cons ev_c (ea_cons ev_c (ea_cons ev_c (ea_cons ev_c (ea_cons ev_c (ea_cons ev_c ea_nil)))))))) (by show 8 ≤ 100000; decide)) rfl rfl)) (Bool.true_and _)) (fun ht3 H4 e4 => ?_) (fun ht3 H4 e4 => ?_)
          · exact ret_word rfl (e13.trans e4) (by rw [bad_n, if_neg hF, if_neg hab, if_pos (by simpa using ht3)]) k
          · have hg : ¬ good z = false := by simpa using ht3
            have e14 := e13.trans e4
            refine ret_if (b := decide (11 < M.panes.length)) (et_test fun H7 e7 Q' q' => ?_) (fun hb H7 e7 => ?_) (fun hb H7 e7 => ?_)
            · refine (ev_fz (key := .inr "pane") (ev_var rfl) (ev_ixt rfl (ex_t (e14.trans e7) hd) at0) (fm.ext (e14.trans e7)) (valV_row m3)) H7 (Ex.refl _) _ fun H8 e8 => ?_
              exact ⟨_, _, rfl, ((fT _ m3).ext ((e14.trans e7).trans e8)).rd, _, _, rfl, rfl, by
                have z := q' H8 e8
                rwa [show decide (11 < M.panes.length) = decide ((11 : Int) < ((T "pane").length : Int)) by rw [Bool.eq_iff_iff, hn.1]; simp; omega] at z⟩
            · exact ret_word rfl (e14.trans e7) (by rw [bad_n, if_neg hF, if_neg hab, if_neg hg, if_pos (show 12 ≤ (stOf M).fl.panes.length from of_decide_eq_true hb)]) k
            · have hb := of_decide_eq_false hb
              refine s_ret ev_c fun H8 e8 => k _ _ ((e14.trans e7).trans e8) ?_
              have hnn : ¬ 12 ≤ (stOf M).fl.panes.length := fun z => hb z
              rw [bad_n, if_neg hF, if_neg hab, if_neg hg, if_neg hnn]
              rfl
def DeedU.wd : DeedU → Str
  | .one (.lamp _) => "lamp"
  | .one (.post _) => "post"
  | .one (.pane _ _ _) => "pane"
  | .uns _ => "unsure"
def DeedU.kd : DeedU → Str
  | .one (.lamp _) => "lamp"
  | .one (.post _) => "post"
  | .one (.pane _ _ _) => "pane"
  | .uns _ => "lamp"
theorem DeedU.At.word {K : PySem.W.Frag} {H : Hp} {d : Addr} {D : DeedU} (h : D.At K H d) : ∃ xs, SqT K H d (.str D.wd :: xs) ∧ atI (V.str D.wd :: xs) 0 = some (.str D.wd) := by
  cases D with
  | uns cs => exact let ⟨ch, h1, _⟩ := h; ⟨_, h1, rfl⟩
  | one D => cases D <;> exact ⟨_, h, rfl⟩
theorem wd_cases (D : DeedU) : (D.wd = "unsure" ∧ D.kd = "lamp") ∨ (D.wd = D.kd ∧ (D.kd = "lamp" ∨ D.kd = "post" ∨ D.kd = "pane")) := by
  cases D with
  | uns cs => exact .inl ⟨rfl, rfl⟩
  | one D =>
    cases D with
    | lamp c => exact .inr ⟨rfl, .inl rfl⟩
    | post B => exact .inr ⟨rfl, .inr (.inl rfl)⟩
    | pane a b z => exact .inr ⟨rfl, .inr (.inr rfl)⟩
theorem num_row (M : Md) (D : DeedU) : valV (comC M.cl M.cp M.cn M.ck) (.inr D.kd) = some (.int (D.num (stOf M))) := by
  cases D with
  | uns cs => rfl
  | one D => cases D <;> rfl
def spNumD (K : PySem.W.Frag) : Sp := fun vs H Q _ => ∃ (m d : Addr) (M : Md) (D : DeedU), vs = [.ref m, .ref d] ∧ MdA K 20 H m M ∧ D.At K H d ∧ RetV (.int (D.num (stOf M))) H Q
abbrev sNumD : Stmt := top 129
theorem scNumD : FnScope ["_law_m", "_law_deed", "_law_word"] ["_law_m", "_law_deed"] (defScope sNumD) := ⟨rfl, rfl, rfl, by decide +kernel, rfl, by decide +kernel, by decide +kernel⟩
theorem ok_numD (F : FnP K "_law_number_due" sNumD f fd) : FnOk P w K mg base CX0 1 f fd ["_law_m", "_law_deed"] (spNumD K) := by
  have nd := scNumD.nd
  refine F.ok scNumD (fun vs H Q E h => ?_) (fun cdv A outer s H vs Q E hr h => ⟨_, PSs.nox (pss_cons (ps_set (i := 2) nd rfl (.inl rfl) (pe_ifExp (pt_cmpR op_eq (pe_ix (r := rIxT K) ix_tup (pv 1) pe_int (fun _ _ => rfl)) pe_str (nomark _)) pe_str (pe_ix (r := rIxT K) ix_tup (pv 1) pe_int (fun _ _ => rfl))))
  (pss_one (ps_ret (pe_ifExp (pt_cmpR op_in_seq (pv 2) (pe_tup (pa_cons pe_str (pa_cons pe_str (pa_cons pe_str (pa_cons pe_str pa_nil))))) (by rfl)) (pe_dget (Hs.un1 hr) (pe_dget (Hs.un1 hr) (pv 0) pe_str (fun _ _ => rfl)) (pv 2) (fun _ _ => rfl)) pe_non)))), ?_⟩)
  · obtain ⟨m, d, M, D, rfl, _⟩ := h
    rfl
  · obtain ⟨m, d, M, D, rfl, hM, hd, k⟩ := h
    obtain ⟨T, ⟨D5, fm, fT⟩, hc, hk, hll, hp, hn⟩ := hM.ex
    have m5 : ("came" : Str) ∈ mW := by decide +kernel
    obtain ⟨xs, hd, at0⟩ := DeedU.At.word hd
    refine q_asg (v := .str D.kd) (ev_if (b := decide (V.str D.wd = .str "unsure")) (et_test (ev_op (ev_ixt rfl hd at0) ev_c (rv_eq rfl))) (fun hb => ?_) (fun hb => ?_)) fun H1 e1 => ?_
    · have e : D.kd = "lamp" := by
        rcases wd_cases D with ⟨_, h⟩ | ⟨h, h1 | h1 | h1⟩
        · exact h
        · exact h1
        · rw [h, h1] at hb
          exact absurd hb (by decide +kernel)
        · rw [h, h1] at hb
          exact absurd hb (by decide +kernel)
      rw [e]
      exact ev_c
    · have e : D.wd = D.kd := by
        rcases wd_cases D with ⟨h, _⟩ | ⟨h, _⟩
        · rw [h] at hb
          exact absurd hb (by decide +kernel)
        · exact h
      rw [← e]
      exact ev_ixt rfl hd at0
    dsimp only [gName, List.set]
    refine ret_if (b := true) (et_is (et_test (ev_inU (xs := [.str "lamp", .str "post", .str "pane", .str "look"]) (ev_var rfl) (eu_tup (ea_cons ev_c (ea_cons ev_c (ea_cons ev_c (ea_cons ev_c ea_nil)))) (by simp)) rfl rfl)) ?_) (fun hb H2 e2 => ?_) (fun hb => nomatch hb)
    · rcases wd_cases D with ⟨_, h⟩ | ⟨_, h | h | h⟩ <;> rw [h] <;> decide +kernel
    · have e12 := e1.trans e2
      refine s_ret (ev_fz (key := .inr D.kd) (ev_fz (key := .inr "came") (ev_var rfl) ev_c (fm.ext e12) (valV_row m5)) (ev_var rfl) ((fT _ m5).ext e12) (by rw [hc]; exact num_row M D)) fun H3 e3 => k H3 (e12.trans e3)
end
end Hs
namespace Hs
open PySem PySem.Spec PyProof.Rows L2 Evl
/-! ### what is put, open lamps too -/
theorem fn_or {P : Program} {w : World} {K : PySem.W.Frag} {mg : Str → Option Value} {base : Heap} {CX : CXT} {k : Nat} {f : Addr} {fd : FuncData} {ps : List Str} {sp sp' : Sp} (F : FnOk P w K mg base CX k f fd ps sp) (G : FnOk P w K mg base CX k f fd ps sp') : FnOk P w K mg base CX k f fd ps (fun vs H Q E => sp vs H Q E ∨ sp' vs H Q E) :=
  ⟨fun vs H Q E q => q.elim (F.len vs H Q E) (G.len vs H Q E), fun A outer s H args us vs Q E hr he hb hv hs => hs.elim (F.run A outer s H args us vs Q E hr he hb hv) (G.run A outer s H args us vs Q E hr he hb hv)⟩
def Md.putU (M : Md) : DeedU → Md
  | .one D => M.put D
  | .uns cs => { M with lamps := M.lamps ++ [(M.cl, (cs, 0, 0, true))], cl := M.cl + 1 }
theorem shifts0 (cs : List Chc) : cs.map (shiftC 0 0) = cs := by
  rw [show shiftC 0 0 = id from funext shift0, List.map_id]
theorem stOf_putU {M : Md} {D : DeedU} : (stOf M).putU D = stOf (M.putU D) := by
  cases D with
  | one D => exact stOf_put
  | uns cs =>
    show (⟨⟨(M.lamps.map fun x => (x.1, lmF x.2)) ++ [(M.cl, (cs, true))], _, _⟩, _, _, _, _, _⟩ : Stt) = ⟨⟨(M.lamps ++ [(M.cl, (cs, 0, 0, true))]).map (fun x : Int × LM => (x.1, lmF x.2)), _, _⟩, _, _, _, _, _⟩
    rw [List.map_append]
    have e : lmF (cs, 0, 0, true) = (cs, true) := by
      unfold lmF
      rw [shifts0]
    rw [List.map_singleton, e]
    rfl
def spAfterN (K : PySem.W.Frag) (n : Nat) : Sp := fun vs H Q _ => ∃ (m d : Addr) (M : Md) (cs : List Chc), vs = [.ref m, .ref d] ∧ MdA K n H m M ∧ (DeedU.uns cs).At K H d ∧ M.lamps.length < 30 ∧ ∀ a H', H a = none → Ex H H' → MdA K n H' a (M.putU (.uns cs)) → Q (.ref a) H'
def spAfterU (K : PySem.W.Frag) (n : Nat) : Sp := fun vs H Q E => spAfter K n vs H Q E ∨ spAfterN K n vs H Q E
section
variable {P : Program} {w : World} {K : PySem.W.Frag} {mg : Str → Option Value} {base : Heap} {f : Addr} {fd : FuncData} {n : Nat}
theorem ok_afterN (F : FnP K "_law_after_put" sAfter f fd) (O__law_put : Own P w K mg base 2 "_law_put" ["_law_m", "_law_word", "_law_thing"] spPutM) (g_tuple : mg "tuple" = none) : FnOk P w K mg base CX0 3 f fd ["_law_m", "_law_deed"] (spAfterN K n) := by
  have nd := scAfter.nd
  refine F.ok scAfter (fun vs H Q E h => ?_) (fun cdv A outer s H vs Q E hr h => ⟨_, PSs.nox (pss_cons (ps_set (i := 2) nd rfl (.inl rfl) (pe_ix (r := rIxT K) ix_tup (pv 1) pe_int (fun _ _ => rfl)))
  (pss_cons (ps_if (pt_cmpR op_in_seq (pv 2) (pe_tup (pa_cons pe_str (pa_cons pe_str pa_nil))) (by rfl)) (pss_one (ps_ret (Hs.pe_own O__law_put hr (by first | decide | omega) (by rfl) (pa_cons (pv 0) (pa_cons pe_str (pa_cons (pe_tup (pa_cons (pe_ifExp (pt_cmpR op_eq (pv 2) pe_str (nomark _)) (pe_callTy call_tuple_of (by rfl) g_tuple (by decide +kernel) (pa_cons (pe_ix (r := rIxT K) ix_tup (pv 1) pe_int (fun _ _ => rfl)) pa_nil)) (pe_tup (pa_cons (pe_slice sl_tup (pv 1) (po_some pe_int) po_none) pa_nil))) (pa_cons pe_int (pa_cons pe_int (pa_cons pe_bl pa_nil))))) pa_nil)))))) pss_nil)
  (pss_cons (ps_if (pt_cmpR op_eq (pv 2) pe_str (nomark _)) (pss_one (ps_ret (Hs.pe_own O__law_put hr (by first | decide | omega) (by rfl) (pa_cons (pv 0) (pa_cons pe_str (pa_cons (pe_slice sl_tup (pv 1) (po_some pe_int) po_none) pa_nil)))))) pss_nil)
  (pss_one (ps_ret (Hs.pe_own O__law_put hr (by first | decide | omega) (by rfl) (pa_cons (pv 0) (pa_cons pe_str (pa_cons (pe_tup (pa_cons (pe_slice sl_tup (pv 1) (po_some pe_int) (po_some pe_int)) (pa_cons (pe_slice sl_tup (pv 1) (po_some pe_int) (po_some pe_int)) (pa_cons (pe_ix (r := rIxT K) ix_tup (pv 1) pe_int (fun _ _ => rfl)) pa_nil)))) pa_nil))))))))), ?_⟩)
  · obtain ⟨m, d, M, cs, rfl, _⟩ := h
    rfl
  · obtain ⟨m, d, M, cs, rfl, hM, ⟨ch, hd, ps, hch, hpl, hps⟩, l1, k⟩ := h
    obtain ⟨T, hR, hc, hk, hl, hp, hn⟩ := hM.ex
    have hz := hM.len hc hk hl hp hn
    have ul := hM.ul
    obtain ⟨f1, f2, f3, f4⟩ := hM.few
    have nlp : ("lamp" : Str) ≠ "post" := by decide +kernel
    have nln : ("lamp" : Str) ≠ "pane" := by decide +kernel
    have nlk : ("lamp" : Str) ≠ "look" := by decide +kernel
    have nlc : ("lamp" : Str) ≠ "came" := by decide +kernel
    have npc : ("post" : Str) ≠ "came" := by decide +kernel
    have nnc : ("pane" : Str) ≠ "came" := by decide +kernel
    have nkc : ("look" : Str) ≠ "came" := by decide +kernel
    have at0 : atI [V.str "unsure", .ref ch] 0 = some (.str "unsure") := rfl
    refine q_asg (ev_ixt (xs := [V.str "unsure", .ref ch]) rfl hd at0) fun H1 e1 => ?_
    dsimp only [List.set]
    have hd1 := ex_t e1 hd
    refine q_when (b := true) (et_is (ev_inU (xs := [.str "lamp", .str "unsure"]) (ev_var rfl) (eu_tup (ea_cons ev_c (ea_cons ev_c ea_nil)) (by simp)) rfl rfl |> et_test) (by decide +kernel)) (fun ht H2 e2 => ?_) (fun ht => nomatch ht)
    have e12 := e1.trans e2
    have hd2 := ex_t e2 hd1
    refine ⟨_, rfl, ?_⟩
    refine (et_is (et_test (ev_op (ev_var rfl) ev_c (rv_eq rfl))) (by decide +kernel) : EvT _ _ H2 true) H2 (Ex.refl H2) _ fun H3 e3 => ?_
    dsimp only
    refine ite_T rfl ?_
    refine (ev_ixt (xs := [V.str "unsure", .ref ch]) rfl (ex_t e3 hd2) rfl) H3 (Ex.refl _) _ fun H4 e4 => ?_
    have e14 := (e12.trans e3).trans e4
    refine ⟨ch, _, rfl, .inr ⟨st_of (e14 _ _ hch), ?_⟩⟩
    refine ⟨sz_of (by simp), fun th hth => ?_⟩
    have x3 := Ex.new (o := .tup [V.ref ch, .int 0, .int 0, .bl true]) hth
    have e0 := e14.trans x3
    refine ⟨m, T, "lamp", M.cl, .ref th, rfl, hR.ext e0, hz, by decide +kernel, nlc, by rw [hc] <;> rfl, fun a H4 na e4 hR4 => ?_⟩
    have e04 := e0.trans e4
    have kp := Kp.of e04
    refine k a H4 (fresh_back e0 na) e04 ⟨⟨_, hR4, by rw [putM_at, hc] <;> rfl, by rw [putM_ne nkc (Ne.symm nlk)]; exact hk, ?_, ?_, ?_⟩, ul.snoc, hM.up, hM.un, ⟨by show (M.lamps ++ [_]).length ≤ 30; rw [List.length_append]; exact l1, f2, f3, f4⟩⟩
    · rw [putM_own nlc]
      exact (hl.mono fun _ _ => kp.lampM).put ul ⟨th, ch, ps, rfl, st_of (e4 _ _ upd_same), st_of (e04 _ _ hch), hpl, fun i p c' hp' hc' => st_of (e04 _ _ (hps i p c' hp' hc'))⟩
    · rw [putM_ne npc (Ne.symm nlp)]
      exact hp.mono fun _ _ => kp.blkM
    · rw [putM_ne nnc (Ne.symm nln)]
      exact hn.mono fun _ _ => kp.panM
theorem ok_afterU (F : FnP K "_law_after_put" sAfter f fd) (O__law_put : Own P w K mg base 2 "_law_put" ["_law_m", "_law_word", "_law_thing"] spPutM) (g_tuple : mg "tuple" = none) : FnOk P w K mg base CX0 3 f fd ["_law_m", "_law_deed"] (spAfterU K n) := fn_or (ok_after F O__law_put g_tuple) (ok_afterN F O__law_put g_tuple)
end
end Hs
namespace Hs
open PySem PySem.Spec PyProof.Rows L2 Evl
section
variable {P : Program} {w : World} {K : PySem.W.Frag} {mg : Str → Option Value} {base : Heap} {f : Addr} {fd : FuncData}
def spFar : Sp := fun vs H Q _ => ∃ (b l : Addr) (ns : List Int) (n : Nat), vs = [.ref b] ∧ BagAt H b l ns n ∧ n < 900000 ∧ ∀ (z : Int) (H' : Hp), 1000000 < z.natAbs → z.natAbs < 2 ^ 200 → BagAt H' b l ns (n + 2) → But H H' b → Q (.int z) H'
abbrev sFar : Stmt := top 110
theorem scFar : FnScope ["_law_bag_here", "_law_way"] ["_law_bag_here"] (defScope sFar) := ⟨rfl, rfl, rfl, by decide +kernel, rfl, by decide +kernel, by decide +kernel⟩
theorem ok_far (F : FnP K "_law_far" sFar f fd) (O__law_pull : Own P w K mg base 1 "_law_pull" ["_law_bag_here", "_law_many"] spPull) : FnOk P w K mg base CX0 2 f fd ["_law_bag_here"] spFar := by
  have nd := scFar.nd
  refine F.ok scFar (fun vs H Q E h => ?_) (fun cdv A outer s H vs Q E hr h => ⟨_, PSs.nox (pss_cons (ps_set (i := 1) nd rfl (.inl rfl) (Hs.pe_own O__law_pull hr (by first | decide | omega) (by rfl) (pa_cons (pv 0) (pa_cons pe_int pa_nil))))
  (pss_cons (ps_if (pt_cmpR op_lt (pv 1) pe_int (nomark _)) (pss_one (ps_ret (pe_ix (r := rIxL K) ix_list (pe_lst (pa_cons pe_int (pa_cons (pe_un un_neg pe_int) pa_nil))) (pv 1) (fun _ _ => rfl)))) pss_nil)
  (pss_one (ps_ret (pe_op op_mulW (pe_op op_add (pe_op op_pow pe_int pe_int) (Hs.pe_own O__law_pull hr (by first | decide | omega) (by rfl) (pa_cons (pv 0) (pa_cons (pe_op op_pow pe_int pe_int) pa_nil)))) (pe_ix (r := rIxL K) ix_list (pe_lst (pa_cons pe_int (pa_cons (pe_un un_neg pe_int) pa_nil))) (pe_op op_sub (pv 1) pe_int) (fun _ _ => rfl))))))), ?_⟩)
  · obtain ⟨b, l, ns, n, rfl, _⟩ := h
    rfl
  · obtain ⟨b, l, ns, n, rfl, B, hn, k⟩ := h
    refine ⟨_, rfl, b, l, ns, n, 4, rfl, B, by omega, by decide, by decide, fun v H1 v0 v1 B1 b1 => ?_⟩
    dsimp only [gName, List.set]
    refine q_when (et_test (ev_op (ev_var rfl) ev_c rv_I0)) (fun ht H2 e2 => ?_) (fun ht H2 e2 => ?_)
    · have hv : v < 2 := of_decide_eq_true ht
      refine ⟨_, rfl, sz_of (by simp), fun p hp => ?_⟩
      have x := Ex.new (o := .lst [V.int 1000001, .int (-1000001)]) hp
      obtain ⟨z, hat, z1, z2⟩ : ∃ z : Int, atI [V.int 1000001, .int (-1000001)] v = some (.int z) ∧ 1000000 < z.natAbs ∧ z.natAbs < 2 ^ 200 := by
        obtain rfl | rfl : v = 0 ∨ v = 1 := by omega
        · exact ⟨_, rfl, by decide, by decide⟩
        · exact ⟨_, rfl, by decide, by decide⟩
      exact ⟨_, rfl, p, _, v, _, rfl, rfl, sq_of upd_same, hat, k z _ z1 z2 (B1.ext (e2.trans x) (by omega)) (b1.ex (e2.trans x))⟩
    · have hv : ¬ v < 2 := of_decide_eq_false ht
      refine ⟨_, _, rfl, rfl, ⟨by decide, by decide, by decide⟩, _, rfl, _, _, rfl, rfl, ⟨by decide, by decide, by decide⟩, b, l, ns, n + 1, _, rfl, B1.ext e2 (Nat.le_refl _), by omega, by decide, by decide, fun v2 H4 v20 v21 B4 b4 => ⟨_, _, rfl, rfl, ?_⟩⟩
      refine ⟨_, rfl, sz_of (by simp), fun p hp => ?_⟩
      have x := Ex.new (o := .lst [V.int 1, .int (-1)]) hp
      obtain ⟨z, hat, z1⟩ : ∃ z : Int, atI [V.int 1, .int (-1)] (v - 2) = some (.int z) ∧ (z = 1 ∨ z = -1) := by
        obtain rfl | rfl : v = 2 ∨ v = 3 := by omega
        · exact ⟨_, rfl, .inl rfl⟩
        · exact ⟨_, rfl, .inr rfl⟩
      have t29 : (10 : Int) ^ Int.toNat 29 = 100000000000000000000000000000 := by decide
      have t9 : (10 : Int) ^ Int.toNat 9 = 1000000000 := by decide
      rw [t9] at v21
      have t200 : (2 : Nat) ^ 200 = 1606938044258990275541962092341162602522202993782792835301376 := by decide
      refine ⟨_, rfl, _, _, rfl, rfl, p, _, _, _, rfl, rfl, sq_of upd_same, hat, _, _, rfl, rfl, ?_, k _ _ ?_ ?_ (B4.ext x (by omega)) (((b1.ex e2).trans b4).ex x)⟩
      · rw [t29]
        refine wide_mul (a := 200) (b := 200) ?_ ?_ (by decide) (by decide) (by decide)
        · rw [t200]
          omega
        · rw [t200]
          omega
      · rw [t29]
        rcases z1 with rfl | rfl <;> omega
      · rw [t29, t200]
        rcases z1 with rfl | rfl <;> omega
end
end Hs
namespace Hs
open PySem PySem.Spec PyProof.Rows L2 Evl LamX NdefX
/-- a lambda without parameters, by its body's reading -/
theorem lok_gen {P : Program} {w : World} {K : PySem.W.Frag} {mg : Str → Option Value} {base : Heap} {F : LF} {k : Nat} {fr : List Str} {t : XK → TE} (hp : F.params = ⟨[], [], none, [], [], none, []⟩) (S : NScope fr [] fr F.scope)
    (hb : ∀ (A : Around) (outer : List Env) (s : Shared) (H : Hp) (f : Addr) (E : XK), Room k (A.deeper (envF F.nf f s.heap.objs.size)) → PE (ncx (L2.CX P w) P w K mg base fr F.nf f A outer s H E) F.body (t E)) :
    LOk P w K mg base (L2.CX P w) (k + 1) F [] fr (fun ws vs H Q E => vs = [] ∧ t E (startF fr [] ws) H Q) := by
  refine lok_of S (fun pm ctv us hl => ?_) (fun ws vs H Q E h => by rw [h.1] <;> rfl) (fun A outer s H f vs ws Q E hr hl h => ?_)
  · cases us with
    | nil =>
      rw [hp]
      rfl
    | cons u r => cases hl
  · obtain ⟨rfl, hs⟩ := h
    exact ⟨_, hb A outer s H f E hr, hs⟩
end Hs
namespace Hs
open PySem PySem.Spec PyProof.Rows L2 Evl
def lamQ : Str := ("law" : Str) ++ ".<locals>." ++ "<lambda>"
def spLaw (K : PySem.W.Frag) (T : List (Addr × Str)) : Sp := fun vs H Q _ => ∃ (a : Addr) (ns : List Int), vs = [.ref a] ∧ SqL K H a (ns.map V.int) ∧ ns.length ≤ 63 ∧ LamX.Tabs T H ∧ ∀ H', Q (.bl true) H'
def freeB (sc : Scope) (ns : List (Str × NameKind)) : Bool := ns.all fun y => !decide (y.2 = .free) || decide (sc.names.lookup y.1 = some .cell) || decide (sc.names.lookup y.1 = some .free)
theorem free_by {sc : Scope} {ns : List (Str × NameKind)} (h : freeB sc ns = true) : ∀ y ∈ ns, y.2 = .free → sc.names.lookup y.1 = some .cell ∨ sc.names.lookup y.1 = some .free := by
  unfold freeB at h
  simp only [Bool.or_eq_true, Bool.not_eq_true', decide_eq_true_eq, decide_eq_false_iff_not, List.all_eq_true] at h
  intro y hy e
  rcases h y hy with (z | z) | z
  · exact absurd e z
  · exact .inl z
  · exact .inr z
theorem caps_ns {X : Cx} {ns : List (Str × NameKind)} {fr : List Str} {js : List Nat} (ok : X.Ok) (hfree : ∀ y ∈ ns, y.2 = .free → X.env.scope.names.lookup y.1 = some .cell ∨ X.env.scope.names.lookup y.1 = some .free) (hfr : ∀ y ∈ fr, (y, NameKind.free) ∈ ns) (hjs : js.map (fun j => X.N[j]?) = fr.map some) : NdefX.Caps X (cloFrom X.env.cells ns []) fr js :=
  NdefX.Caps.made (scope := { kind := .function, names := ns, isGenerator := false, isCoroutine := false }) ok hfree hfr hjs
end Hs
namespace Hs
open PySem PySem.Spec PyProof.Rows L2 Evl
/-! ### a deed that is drawn, right or wrong -/
/-- choices with their places -/
def ChZ (H : Hp) (ch : Addr) (zs : List (Addr × Chc)) : Prop := H ch = some (.tup (zs.map fun z => V.ref z.1)) ∧ ∀ z ∈ zs, H z.1 = some (.tup (chv z.2))
theorem ChcsR.toZ {H : Hp} {ch : Addr} {cs : List Chc} (h : ChcsR H ch cs) : ∃ zs : List (Addr × Chc), zs.map (·.2) = cs ∧ ChZ H ch zs := by
  obtain ⟨ps, h1, h2, h3⟩ := h
  refine ⟨ps.zip cs, List.map_snd_zip (by omega), ?_, fun z hz => ?_⟩
  · rw [show (fun z : Addr × Chc => V.ref z.1) = V.ref ∘ Prod.fst from rfl, ← List.map_map, List.map_fst_zip (by omega)]
    exact h1
  · obtain ⟨i, hi⟩ := List.mem_iff_getElem?.mp hz
    rw [List.getElem?_zip_eq_some] at hi
    exact h3 i z.1 z.2 hi.1 hi.2
theorem ChZ.toR {H : Hp} {ch : Addr} {zs : List (Addr × Chc)} (h : ChZ H ch zs) : ChcsR H ch (zs.map (·.2)) := by
  refine ⟨zs.map (·.1), by rw [h.1, List.map_map] <;> rfl, by rw [List.length_map, List.length_map], fun i p c h1 h2 => ?_⟩
  rw [List.getElem?_map] at h1 h2
  obtain ⟨z, hz, rfl⟩ := Option.map_eq_some_iff.mp h1
  rw [hz] at h2
  cases h2
  exact h.2 z (List.mem_of_getElem? hz)
theorem cutV_map {α : Type} (f : α → V) (zs : List α) (lo hi : Option Int) : ∃ i j, cutV (zs.map f) lo hi = ((zs.drop i).take j).map f := ⟨_, _, by
  unfold cutV
  rw [← List.map_drop, ← List.map_take]⟩
theorem rep_map {α : Type} (f : α → V) (zs : List α) (k : Nat) : (List.replicate k (zs.map f)).flatten = ((List.replicate k zs).flatten).map f := by
  rw [List.map_flatten, List.map_replicate]
theorem rep_mem {α : Type} {zs : List α} {k : Nat} {z : α} (h : z ∈ (List.replicate k zs).flatten) : z ∈ zs := by
  obtain ⟨l, hl, hz⟩ := List.mem_flatten.mp h
  rw [(List.mem_replicate.mp hl).2] at hz
  exact hz
theorem elu_lcR1 {K : PySem.W.Frag} {σ : L2.St} {H : Hp} {te : TE} {ta : TA} {j : Nat} {vs : List Nat} {n : Int} {us : List (List V)} (h : EvA ta σ H [.int n]) (hn : 0 ≤ n ∧ n ≤ 40000) (hl : us.length = n.toNat) (hw : ∀ x, wipe ((wipe σ vs).set j (some x)) vs = wipe σ vs)
    (he : ∀ (i : Nat) (u : List V) H1, Ex H H1 → us[i]? = some u → EvU te ((wipe σ vs).set j (some (.int (i : Int)))) H1 u) :
    EvLU (tLc (iRng1 ta) (gName j) tYes te vs) σ H us := fun H0 e Q q => h H0 e _ fun H1 e1 => ⟨n, rfl, by omega, by omega, fun Dl hD =>
  lc_range (lo := 0) (n := n.toNat) (Cu H1 us Dl) ⟨hD, Ex.new hD, [], upd_same, rfl, fun i p u h => by cases h⟩ (fun i H' hi p => by
    have e0 : (0 : Int) + (i : Int) = (i : Int) := Int.zero_add _
    have hiu : i < us.length := by omega
    show wipe ((wipe σ vs).set j (some (.int ((0 : Int) + (i : Int))))) vs = wipe σ vs ∧ tYes ((wipe σ vs).set j (some (.int ((0 : Int) + (i : Int))))) H' fun b H3 => if b = true then te ((wipe σ vs).set j (some (.int ((0 : Int) + (i : Int))))) H3 fun y H4 => ∃ acc, H4 Dl = some (.lst acc) ∧ acc.length < sizeLine ∧ Cu H1 us Dl (i + 1) (upd H4 Dl (.lst (acc ++ [y]))) else Cu H1 us Dl (i + 1) H3
    rw [e0]
    exact ⟨hw _, cu_turn p (by omega) (List.getElem?_eq_getElem hiu) (he i _ H1 (e.trans e1) (List.getElem?_eq_getElem hiu))⟩) (fun H' p => by
      obtain ⟨p1, p2, ps, p3, p4⟩ := p
      rw [← hl, List.take_length] at p4
      exact q Dl ps H' (fresh_back e1 p1) (e1.trans p2) p3 p4)⟩
theorem s_asgU1 {c : V} {r : List V → Hp → VK → Prop} {tl : TE} {i : Nat} {D : Ends} {σ : L2.St} {H : Hp} (h : tl σ H fun x H0 => r [x] H0 fun y H1 => [c, y].length ≤ sizeLine ∧ ∀ p, H1 p = none → D.nx (σ.set i (some (.ref p))) (upd H1 p (.tup [c, y]))) : tAsg (tTup (tCons (tC c) (tCons (tCB r (tCons tl tNil)) tNil))) (gName i) D σ H := h
theorem sIx_m1 {n : Nat} (h : 1 ≤ n) : HT.sIx n n (some (-1)) = n - 1 := by
  show (if (-1 : Int) < 0 then ((-1 : Int) + (n : Int)).toNat else min (-1 : Int).toNat n) = _
  rw [if_pos (by decide)]
  omega
theorem cut_init {xs : List V} {v : V} : cutV (xs ++ [v]) none (some (-1)) = xs := by
  unfold cutV
  rw [sIx_m1 (by rw [List.length_append]; exact Nat.le_add_left _ _), HT.sIx_none, List.length_append]
  show List.take (xs.length + 1 - 1 - 0) (xs ++ [v]) = xs
  rw [Nat.add_sub_cancel, Nat.sub_zero, List.take_left]
theorem tups_Z {H : Hp} {ch : Addr} {ps : List Addr} {cs : List Chc} (h : Tups H ps (cs.map chv)) (hch : H ch = some (.tup (ps.map V.ref))) : ChcsR H ch cs := by
  have hl := h.1
  rw [List.length_map] at hl
  exact ⟨ps, hch, hl, fun i p c h1 h2 => h.2 i p _ h1 (by rw [List.getElem?_map, h2] <;> rfl)⟩
/-- a deed whose i-th number is z -/
def Deed.setAt (D : Deed) (i : Nat) (z : Int) : Deed :=
  match D, i with
  | .lamp c, 1 => .lamp (z, c.2)
  | .lamp c, 2 => .lamp (c.1, z, c.2.2)
  | .lamp c, 3 => .lamp (c.1, c.2.1, z, c.2.2.2)
  | .lamp c, 4 => .lamp (c.1, c.2.1, c.2.2.1, z, c.2.2.2.2)
  | .lamp c, _ => .lamp (c.1, c.2.1, c.2.2.1, c.2.2.2.1, z)
  | .post B, 1 => .post ⟨z, B.low, B.right, B.high⟩
  | .post B, 2 => .post ⟨B.left, z, B.right, B.high⟩
  | .post B, 3 => .post ⟨B.left, B.low, z, B.high⟩
  | .post B, _ => .post ⟨B.left, B.low, B.right, z⟩
  | .pane a b s, 1 => .pane (z, a.2) b s
  | .pane a b s, 2 => .pane (a.1, z) b s
  | .pane a b s, 3 => .pane a (z, b.2) s
  | .pane a b s, _ => .pane a (b.1, z) s
theorem setAt_wd (D : Deed) (i : Nat) (z : Int) : (D.setAt i z).wd = D.wd := by
  unfold Deed.setAt
  split <;> rfl
def Deed.many : Deed → Int
  | .lamp _ => 5
  | _ => 4
structure SetV (D : Deed) (v z : Int) : Prop where
  e : cutV D.vals none (some (1 + v)) ++ [.int z] ++ cutV D.vals (some (1 + v + 1)) none = (D.setAt (1 + v).toNat z).vals
  q : ∃ q, atI D.vals (1 + v) = some (.int q)
  a : HT.sIx D.vals.length D.vals.length (some (1 + v)) ≠ D.vals.length
  b : HT.sIx D.vals.length 0 (some (1 + v + 1)) ≠ 0
  n : 0 < (cutV D.vals none (some (1 + v))).length
theorem set_vals (D : Deed) (v z : Int) (h0 : 0 ≤ v) (h1 : v < D.many) : SetV D v z := by
  cases D with
  | lamp c =>
    have h1 : v < 5 := h1
    obtain rfl | rfl | rfl | rfl | rfl : v = 0 ∨ v = 1 ∨ v = 2 ∨ v = 3 ∨ v = 4 := by omega
    all_goals exact ⟨rfl, ⟨_, rfl⟩, by show HT.sIx 6 6 _ ≠ 6; decide, by show HT.sIx 6 0 _ ≠ 0; decide, Nat.succ_pos _⟩
  | post B =>
    have h1 : v < 4 := h1
    obtain rfl | rfl | rfl | rfl : v = 0 ∨ v = 1 ∨ v = 2 ∨ v = 3 := by omega
    all_goals exact ⟨rfl, ⟨_, rfl⟩, by show HT.sIx 5 5 _ ≠ 5; decide, by show HT.sIx 5 0 _ ≠ 0; decide, Nat.succ_pos _⟩
  | pane a b s =>
    have h1 : v < 4 := h1
    obtain rfl | rfl | rfl | rfl : v = 0 ∨ v = 1 ∨ v = 2 ∨ v = 3 := by omega
    all_goals exact ⟨rfl, ⟨_, rfl⟩, by show HT.sIx 6 6 _ ≠ 6; decide, by show HT.sIx 6 0 _ ≠ 0; decide, Nat.succ_pos _⟩
theorem vals_len (D : Deed) : D.vals.length ≤ 6 := by
  cases D with
  | lamp c => exact Nat.le_refl 6
  | post B => exact Nat.le_succ 5
  | pane a b z => exact Nat.le_refl 6
def spPutDeed (K : PySem.W.Frag) : Sp := fun vs H Q _ => ∃ (b l g : Addr) (ns : List Int) (n : Nat) (w x y : Int) (vm : V), vs = [.ref b, .ref g, vm] ∧ BagAt H b l ns n ∧ n < 600000 ∧ H g = some (.tup [.int w, .int x, .int y]) ∧ Grid w x y ∧
  ∀ (d : Addr) (D : DeedU) (H' : Hp), D.fit → H d = none → D.At K H' d → BagAt H' b l ns (n + 100) → But H H' b → Q (.ref d) H'
section
variable {P : Program} {w : World} {K : PySem.W.Frag} {mg : Str → Option Value} {base : Heap} {f : Addr} {fd : FuncData}
abbrev sPutDeed : Stmt := top 132
theorem scPutDeed : FnScope ["_law_bag_here", "_law_grid_here", "_law_m", "_law_word", "_law_deed", "_law_way", "_law_at", "_law_number", "_law_k"] ["_law_bag_here", "_law_grid_here", "_law_m"] (defScope sPutDeed) := ⟨rfl, rfl, rfl, by decide +kernel, rfl, by decide +kernel, by decide +kernel⟩
theorem ok_putDeed (F : FnP K "_law_put_deed" sPutDeed f fd) (O__law_pull : Own P w K mg base 1 "_law_pull" ["_law_bag_here", "_law_many"] spPull) (O__law_far : Own P w K mg base 2 "_law_far" ["_law_bag_here"] spFar) (O__law_thing_deed : Own P w K mg base 4 "_law_thing_deed" ["_law_bag_here", "_law_grid_here", "_law_word"] spThingD) (O__law_unsure_deed : Own P w K mg base 3 "_law_unsure_deed" ["_law_bag_here", "_law_grid_here", "_law_upto"] spUnsD) (g_len : mg "len" = none) (g_tuple : mg "tuple" = none) (g_range : mg "range" = none) : FnOk P w K mg base CX0 5 f fd ["_law_bag_here", "_law_grid_here", "_law_m"] (spPutDeed K) := by
  have nd := scPutDeed.nd
  refine F.ok scPutDeed (fun vs H Q E h => ?_) (fun cdv A outer s H vs Q E hr h => ⟨_, PSs.nox (pss_cons (ps_set (i := 3) nd rfl (.inl rfl) (pe_ix (r := rIxL K) ix_list (pe_lst (pa_cons pe_str (pa_cons pe_str (pa_cons pe_str (pa_cons pe_str (pa_cons pe_str (pa_cons pe_str pa_nil))))))) (Hs.pe_own O__law_pull hr (by first | decide | omega) (by rfl) (pa_cons (pv 0) (pa_cons pe_int pa_nil))) (fun _ _ => rfl)))
  (pss_cons (ps_if (pt_cmpR op_eq (pv 3) pe_str (nomark _)) (pss_cons (ps_set (i := 4) nd rfl (.inl rfl) (Hs.pe_own O__law_unsure_deed hr (by first | decide | omega) (by rfl) (pa_cons (pv 0) (pa_cons (pv 1) (pa_cons pe_int pa_nil)))))
  (pss_cons (ps_set (i := 5) nd rfl (.inl rfl) (Hs.pe_own O__law_pull hr (by first | decide | omega) (by rfl) (pa_cons (pv 0) (pa_cons pe_int pa_nil))))
  (pss_cons (ps_if (pt_cmpR op_eq (pv 5) pe_int (nomark _)) (pss_one (ps_set (i := 4) nd rfl (.inl rfl) (pe_tup (pa_cons pe_str (pa_cons (pe_slice (r := rSlT K) sl_tup (pe_op (r := rRepT K) op_repT (pe_ix (r := rIxT K) ix_tup (pv 4) pe_int (fun _ _ => rfl)) pe_int) po_none (po_some (pe_ix (r := rIxL K) ix_list (pe_lst (pa_cons pe_int (pa_cons (pe_op op_mulW pe_int (pe_callB (r := Evl.rLenS K) call_len_seq (by rfl) g_len PySem.boot_len (pa_cons (pe_ix (r := rIxT K) ix_tup (pv 4) pe_int (fun _ _ => rfl)) pa_nil))) (pa_cons pe_int pa_nil)))) (Hs.pe_own O__law_pull hr (by first | decide | omega) (by rfl) (pa_cons (pv 0) (pa_cons pe_int pa_nil))) (fun _ _ => rfl)))) pa_nil))))) pss_nil)
  (pss_cons (ps_if (pt_cmpR op_eq (pv 5) pe_int (nomark _)) (pss_one (ps_set (i := 4) nd rfl (.inl rfl) (pe_tup (pa_cons pe_str (pa_cons (pe_callTy call_tuple_of (by rfl) g_tuple (by decide +kernel) (pa_cons (pe_lc (own := [("_law_k", 8)]) rfl nd (pi_range1 (by rfl) g_range (pa_cons pe_int pa_nil)) (blkOk_by (N := ["_law_bag_here", "_law_grid_here", "_law_m", "_law_word", "_law_deed", "_law_way", "_law_at", "_law_number", "_law_k"]) (sc := defScope (Hs.top 132)) (by decide +kernel)) (fun _ _ _ _ _ => (pg_name (i := 8) nd rfl (Or.inl rfl))) (fun _ _ _ _ _ => pts_nil) (fun _ _ _ _ _ => (pe_tup (pa_cons (pv 8) (pa_cons pe_int (pa_cons pe_int (pa_cons pe_int (pa_cons pe_int pa_nil)))))))) pa_nil)) pa_nil))))) pss_nil)
  (pss_cons (ps_if (pt_cmpR op_eq (pv 5) pe_int (nomark _)) (pss_one (ps_set (i := 4) nd rfl (.inl rfl) (pe_tup (pa_cons pe_str (pa_cons (pe_op (r := rCatT K) op_catT (pe_slice (r := rSlT K) sl_tup (pe_ix (r := rIxT K) ix_tup (pv 4) pe_int (fun _ _ => rfl)) po_none (po_some (pe_un un_neg pe_int))) (pe_tup (pa_cons (pe_op (r := rCatT K) op_catT (pe_slice (r := rSlT K) sl_tup (pe_ix (r := rIxT K) ix_tup (pe_ix (r := rIxT K) ix_tup (pv 4) pe_int (fun _ _ => rfl)) (pe_un un_neg pe_int) (fun _ _ => rfl)) po_none (po_some pe_int)) (pe_tup (pa_cons (pe_un un_neg pe_int) pa_nil))) pa_nil))) pa_nil))))) pss_nil)
  (pss_one (ps_ret (pv 4)))))))) pss_nil)
  (pss_cons (ps_set (i := 4) nd rfl (.inl rfl) (Hs.pe_own O__law_thing_deed hr (by first | decide | omega) (by rfl) (pa_cons (pv 0) (pa_cons (pv 1) (pa_cons (pv 3) pa_nil)))))
  (Evl.pss_cut (ps_if (pt_cmpR op_eq (Hs.pe_own O__law_pull hr (by first | decide | omega) (by rfl) (pa_cons (pv 0) (pa_cons pe_int pa_nil))) pe_int (nomark _)) (pss_cons (ps_set (i := 6) nd rfl (.inl rfl) (pe_op op_add pe_int (Hs.pe_own O__law_pull hr (by first | decide | omega) (by rfl) (pa_cons (pv 0) (pa_cons (pe_ifExp (pt_cmpR op_ne (pv 3) pe_str (nomark _)) pe_int pe_int) pa_nil)))))
  (pss_cons (ps_set (i := 7) nd rfl (.inl rfl) (pe_ix (r := rIxL K) ix_list (pe_lst (pa_cons (Hs.pe_own O__law_far hr (by first | decide | omega) (by rfl) (pa_cons (pv 0) pa_nil)) (pa_cons (pe_op op_sub (pe_ix (r := rIxT K) ix_tup (pv 4) (pv 6) (fun _ _ => rfl)) pe_int) (pa_cons (pe_op op_add (pe_ix (r := rIxT K) ix_tup (pv 4) (pv 6) (fun _ _ => rfl)) pe_int) (pa_cons (pe_un un_neg pe_int) pa_nil))))) (Hs.pe_own O__law_pull hr (by first | decide | omega) (by rfl) (pa_cons (pv 0) (pa_cons pe_int pa_nil))) (fun _ _ => rfl)))
  (pss_one (ps_set (i := 4) nd rfl (.inl rfl) (pe_op (r := rCatT K) op_catT (pe_op (r := rCatT K) op_catT (pe_slice (r := rSlT K) sl_tup (pv 4) po_none (po_some (pv 6))) (pe_tup (pa_cons (pv 7) pa_nil))) (pe_slice (r := rSlT K) sl_tup (pv 4) (po_some (pe_op op_add (pv 6) pe_int)) po_none)))))) pss_nil)
  (pss_cons (ps_if (PW.pt (pw_and (pt_cmpR op_eq (pv 3) pe_str (nomark _)) (pw_and1 (pt_cmpR op_eq (Hs.pe_own O__law_pull hr (by first | decide | omega) (by rfl) (pa_cons (pv 0) (pa_cons pe_int pa_nil))) pe_int (nomark _))))) (pss_one (ps_set (i := 4) nd rfl (.inl rfl) (pe_ifExp (pt_cmpR op_lt (pe_ix (r := rIxT K) ix_tup (pv 4) pe_int (fun _ _ => rfl)) pe_int (nomark _)) (pe_op (r := rCatT K) op_catT (pe_slice (r := rSlT K) sl_tup (pv 4) po_none (po_some pe_int)) (pe_tup (pa_cons (pe_ix (r := rIxL K) ix_list (pe_lst (pa_cons pe_str (pa_cons pe_str pa_nil))) (Hs.pe_own O__law_pull hr (by first | decide | omega) (by rfl) (pa_cons (pv 0) (pa_cons pe_int pa_nil))) (fun _ _ => rfl)) pa_nil))) (pe_op (r := rCatT K) op_catT (pe_op (r := rCatT K) op_catT (pe_slice (r := rSlT K) sl_tup (pv 4) po_none (po_some pe_int)) (pe_slice (r := rSlT K) sl_tup (pv 4) (po_some pe_int) (po_some pe_int))) (pe_slice (r := rSlT K) sl_tup (pv 4) (po_some pe_int) po_none))))) pss_nil)
  (pss_one (ps_ret (pv 4)))))))), ?_⟩)
  · obtain ⟨b, l, g, ns, n, w, x, y, vm, rfl, _⟩ := h
    rfl
  · obtain ⟨b, l, g, ns, n, w, x, y, vm, rfl, B, hn, hg, G, k⟩ := h
    obtain ⟨wd, hwd⟩ : ∃ wd : Int → Str, ∀ v, 0 ≤ v → v < 6 → atI [V.str "lamp", .str "unsure", .str "post", .str "pane", .str "post", .str "pane"] v = some (.str (wd v)) ∧ (wd v = "unsure" ∨ wd v = "lamp" ∨ wd v = "post" ∨ wd v = "pane") := by
      refine ⟨fun v => if v = 0 then "lamp" else if v = 1 then "unsure" else if v = 2 ∨ v = 4 then "post" else "pane", fun v v0 v1 => ?_⟩
      obtain rfl | rfl | rfl | rfl | rfl | rfl : v = 0 ∨ v = 1 ∨ v = 2 ∨ v = 3 ∨ v = 4 ∨ v = 5 := by omega
      · exact ⟨rfl, .inr (.inl rfl)⟩
      · exact ⟨rfl, .inl rfl⟩
      · exact ⟨rfl, .inr (.inr (.inl rfl))⟩
      · exact ⟨rfl, .inr (.inr (.inr rfl))⟩
      · exact ⟨rfl, .inr (.inr (.inl rfl))⟩
      · exact ⟨rfl, .inr (.inr (.inr rfl))⟩
    refine ⟨sz_of (by simp), fun p hp => ⟨_, rfl, b, l, ns, n, 6, rfl, B.ext (Ex.new hp) (Nat.le_refl _), by omega, by decide, by decide, fun v H1 v0 v1 B1 b1 => ?_⟩⟩
    have x0 := Ex.new (o := .lst [V.str "lamp", .str "unsure", .str "post", .str "pane", .str "post", .str "pane"]) hp
    obtain ⟨hat, hws⟩ := hwd v v0 v1
    have npb : p ≠ b := bag_ne B hp
    refine ⟨p, _, v, _, rfl, rfl, sq_of (b1 _ _ upd_same npb), hat, ?_⟩
    dsimp only [gName, List.set]
    generalize wd v = wd at hws
    have b01 : But H H1 b := (But.of x0).trans b1
    have hg1 := (bag_kp B b01).tup hg
    refine q_when (b := decide (V.str wd = .str "unsure")) (et_test (ev_op (ev_var rfl) ev_c (rv_eq rfl))) (fun ht H2 e2 => ?_) (fun ht H2 e2 => ?_)
    · refine ⟨_, rfl, _, rfl, b, l, g, ns, n + 1, w, x, y, 6, rfl, B1.ext e2 (Nat.le_refl _), by omega, e2 _ _ hg1, G, by decide, by decide, fun d ch cs H3 hnd l2 l6 hN nd3 hd3 hch3 B3 b3 => ?_⟩
      obtain ⟨zs, rfl, hz3⟩ := hch3.toZ
      have hzl : zs.length ≤ 6 := by
        rw [List.length_map] at l6
        omega
      have hz2 : 2 ≤ zs.length := by rwa [List.length_map] at l2
      have nd0 : H d = none := (b01.ex e2).fresh (B1.ext e2 (Nat.le_refl _)) nd3
      have b03 := (b01.ex e2).trans b3
      refine ⟨_, rfl, b, l, ns, n + 71, 12, rfl, B3, by omega, by decide, by decide, fun way H4 w0 w1 B4 b4 => ?_⟩
      dsimp only [gName, List.set]
      have b04 := b03.trans b4
      have kp4 := bag_kp B3 b4
      have hd4 : H4 d = some (.tup [.str "unsure", .ref ch]) := kp4.tup hd3
      have hz4 : ChZ H4 ch zs := ⟨kp4.tup hz3.1, fun z hz => kp4.tup (hz3.2 z hz)⟩
      refine q_when (b := decide (V.int way = .int 0)) (et_test (ev_op (ev_var rfl) ev_c (rv_eq rfl))) (fun ht H5 e5 => ?_) (fun ht5 H5 e5 => ?_)
      · have hw0 : way = 0 := V.int.inj (of_decide_eq_true ht)
        subst hw0
        have hd5 := e5 _ _ hd4
        refine (ev_ixt (xs := [V.str "unsure", .ref ch]) rfl (st_of hd5) rfl) H5 (Ex.refl _) _ fun H6 e6 => ?_
        have e46 := e5.trans e6
        refine ⟨ch, 4, _, rfl, rfl, st_of (e46 _ _ hz4.1), ?_, by decide, by decide, ?_, fun r hr => ?_⟩
        · intro z
          rw [List.map_eq_nil_iff] at z
          rw [z] at hz2
          exact absurd hz2 (by decide)
        · rw [List.length_map]
          omega
        have x7 := Ex.new (o := .tup (List.replicate (Int.toNat 4) (zs.map fun z => V.ref z.1)).flatten) hr
        have r7 := upd_same (H := H6) (a := r) (o := .tup (List.replicate (Int.toNat 4) (zs.map fun z => V.ref z.1)).flatten)
        rw [rep_map] at x7 r7 ⊢
        have hrl : ((List.replicate (Int.toNat 4) zs).flatten).length = 4 * zs.length := by
          show (List.replicate 4 zs).flatten.length = _
          simp [List.length_flatten]
          omega
        have hrm : ∀ z ∈ (List.replicate (Int.toNat 4) zs).flatten, z ∈ zs := fun z hz => rep_mem hz
        generalize (List.replicate (Int.toNat 4) zs).flatten = rs at x7 r7 hrl hrm ⊢
        generalize upd H6 r (.tup (rs.map fun z => V.ref z.1)) = H7 at x7 r7 ⊢
        have e47 := e46.trans x7
        refine (ev_ixt (xs := [V.str "unsure", .ref ch]) rfl (st_of (e47 _ _ hd4)) rfl) H7 (Ex.refl _) _ fun H8 e8 => ?_
        have e48 := e47.trans e8
        refine ⟨ch, _, rfl, .inr (st_of (e48 _ _ hz4.1)), _, _, rfl, rfl, mul64 (by decide) (by rw [List.length_map]; omega), sz_of (by simp), fun lp hlp => ?_⟩
        have hB8 := B4.ext (m := n + 72) e48 (by omega)
        refine ⟨_, rfl, b, l, ns, n + 72, 3, rfl, hB8.ext (Ex.new hlp) (Nat.le_refl _), by omega, by decide, by decide, fun v9 H9 v90 v91 B9 b9 => ?_⟩
        have nlb : lp ≠ b := bag_ne hB8 hlp
        have hml : ((zs.map fun z => V.ref z.1).length : Int) = (zs.length : Int) := by rw [List.length_map]
        rw [hml] at b9
        have x8 := Ex.new (o := .lst [V.int 1, .int (2 * (zs.length : Int)), .int 7]) hlp
        obtain ⟨hi, hat, hi1, hi2⟩ : ∃ hi : Int, atI [V.int 1, .int (2 * (zs.length : Int)), .int 7] v9 = some (.int hi) ∧ 1 ≤ hi ∧ hi ≤ 2 * (zs.length : Int) + 3 ∧ hi < 4 * (zs.length : Int) := by
          obtain rfl | rfl | rfl : v9 = 0 ∨ v9 = 1 ∨ v9 = 2 := by omega
          · exact ⟨_, rfl, by omega, by omega, by omega⟩
          · exact ⟨_, rfl, by omega, by omega, by omega⟩
          · exact ⟨_, rfl, by omega, by omega, by omega⟩
        refine ⟨lp, _, v9, _, rfl, rfl, sq_of (b9 _ _ upd_same nlb), hat, hi, rfl, ?_⟩
        have B8' := hB8.ext x8 (Nat.le_refl _)
        have kp9 := bag_kp B8' b9
        refine ⟨r, _, rfl, st_of (kp9.tup (x8 _ _ (e8 _ _ r7))), fun z => ?_, fun c2 hc2 => ⟨sz_of (by simp), fun d2 hd2 => ?_⟩⟩
        · have z2 := z.2
          rw [List.length_map, hrl] at z2
          have : HT.sIx (4 * zs.length) (4 * zs.length) (some hi) = min hi.toNat (4 * zs.length) := by
            show (if hi < 0 then (hi + ((4 * zs.length : Nat) : Int)).toNat else min hi.toNat (4 * zs.length)) = _
            rw [if_neg (by omega)]
          omega
        obtain ⟨i, j, hcut⟩ := cutV_map (fun z : Addr × Chc => V.ref z.1) rs none (some hi)
        rw [hcut] at hd2 ⊢
        have x10 := Ex.new (o := .tup (((rs.drop i).take j).map fun z => V.ref z.1)) hc2
        have x11 := Ex.new (o := .tup [V.str "unsure", .ref c2]) hd2
        have x12 := x10.trans x11
        have hzm : ∀ z ∈ (rs.drop i).take j, z ∈ zs := fun z hz => hrm z (List.mem_of_mem_drop (List.mem_of_mem_take hz))
        have hzl2 : ((rs.drop i).take j).length ≤ 60 := by
          rw [List.length_take, List.length_drop]
          omega
        have hc12 := x11 _ _ (upd_same (H := H9) (a := c2) (o := .tup (((rs.drop i).take j).map fun z => V.ref z.1)))
        have hd12 := upd_same (H := upd H9 c2 (.tup (((rs.drop i).take j).map fun z => V.ref z.1))) (a := d2) (o := .tup [V.str "unsure", .ref c2])
        generalize (rs.drop i).take j = z2 at hd2 x10 x11 x12 hzm hzl2 hc12 hd12 ⊢
        have bA : But H _ b := ((((b04.ex e48).ex x8).trans b9).ex x10)
        have nd2 : H d2 = none := bA.fresh (B9.ext x10 (Nat.le_refl _)) hd2
        have bB := bA.ex x11
        have B12 := B9.ext x12 (Nat.le_refl _)
        have hZ : ChZ _ c2 z2 := ⟨hc12, fun z hz => x12 _ _ (kp9.tup ((e48.trans x8) _ _ (hz4.2 z (hzm z hz))))⟩
        generalize upd (upd H9 c2 (.tup (z2.map fun z => V.ref z.1))) d2 (.tup [V.str "unsure", .ref c2]) = HA at hd12 bB B12 hZ ⊢
        dsimp only [gName, List.set]
        refine q_when (b := false) (et_is (et_test (ev_op (ev_var rfl) ev_c (rv_eq rfl))) (by decide +kernel)) (fun ht => nomatch ht) (fun _ HB eB => ?_)
        refine q_when (b := false) (et_is (et_test (ev_op (ev_var rfl) ev_c (rv_eq rfl))) (by decide +kernel)) (fun ht => nomatch ht) (fun _ HC eC => ?_)
        refine s_ret (ev_var rfl) fun HD eD => ?_
        have eA := (eB.trans eC).trans eD
        exact k d2 (.uns (z2.map (·.2))) HD (by show (z2.map _).length ≤ 60; rw [List.length_map]; exact hzl2) nd2 ⟨c2, st_of (eA _ _ hd12), hZ.toR.ext eA⟩ (B12.ext eA (by omega)) (bB.ex eA)
      · have hw0 : way ≠ 0 := fun z => of_decide_eq_false ht5 (by rw [z])
        refine q_when (b := decide (V.int way = .int 2)) (et_test (ev_op (ev_var rfl) ev_c (rv_eq rfl))) (fun ht H6 e6 => ?_) (fun ht6 H6 e6 => ?_)
        · have hw2 : way = 2 := V.int.inj (of_decide_eq_true ht)
          subst hw2
          have e46 := e5.trans e6
          obtain ⟨c7, hc7⟩ : ∃ c7 : List Chc, c7 = (List.range 7).map fun k : Nat => ((k : Int), ((0 : Int), ((1 : Int), (2 : Int), (3 : Int)))) := ⟨_, rfl⟩
          have hl7 : c7.length = 7 := by rw [hc7] <;> rfl
          refine s_asgU1 ?_
          refine (elu_lcR1 (K := K) (n := 7) (j := 8) (vs := [8]) (σ := [some (.ref b), some (.ref g), some vm, some (.str wd), some (.ref d), some (.int 2), none, none, none]) (us := c7.map chv) (ea_cons ev_c ea_nil) (by decide) (by rw [List.length_map, hl7] <;> rfl) (fun _ => rfl) (fun i u H9 e9 hu => ?_)) H6 (Ex.refl _) _ fun pl ps H7 npl e7 hpl hps => ?_
          · rw [List.getElem?_map, hc7, List.getElem?_map] at hu
            obtain ⟨c, hc, rfl⟩ := Option.map_eq_some_iff.mp hu
            obtain ⟨kk, hk, rfl⟩ := Option.map_eq_some_iff.mp hc
            have e : i = kk := by
              obtain ⟨h1, h2⟩ := List.getElem?_eq_some_iff.mp hk
              rw [List.getElem_range] at h2
              exact h2
            subst e
            exact eu_tup (ea_cons (ev_var rfl) (ea_cons ev_c (ea_cons ev_c (ea_cons ev_c (ea_cons ev_c ea_nil))))) (by show 5 ≤ 100000; decide)
          refine ⟨pl, _, rfl, .inl ⟨sq_of hpl, fun c2 hc2 => ⟨sz_of (by simp), fun d2 hd2 => ?_⟩⟩⟩
          have x10 := Ex.new (o := .tup (ps.map V.ref)) hc2
          have x11 := Ex.new (o := .tup [V.str "unsure", .ref c2]) hd2
          have e4A := (e46.trans e7).trans (x10.trans x11)
          have nd2 : H d2 = none := (b04.ex ((e46.trans e7).trans x10)).fresh (B4.ext ((e46.trans e7).trans x10) (Nat.le_refl _)) hd2
          dsimp only [gName, List.set]
          refine q_when (b := false) (et_is (et_test (ev_op (ev_var rfl) ev_c (rv_eq rfl))) (by decide +kernel)) (fun ht => nomatch ht) (fun _ HC eC => ?_)
          refine s_ret (ev_var rfl) fun HD eD => ?_
          have eA := eC.trans eD
          exact k d2 (.uns c7) HD (by show c7.length ≤ 60; omega) nd2 ⟨c2, st_of (eA _ _ upd_same), ((tups_Z (hps.ext x10) upd_same).ext x11).ext eA⟩ (B4.ext (e4A.trans eA) (by omega)) (b04.ex (e4A.trans eA))
        · have hw2 : way ≠ 2 := fun z => of_decide_eq_false ht6 (by rw [z])
          have e46 := e5.trans e6
          refine q_when (b := decide (V.int way = .int 1)) (et_test (ev_op (ev_var rfl) ev_c (rv_eq rfl))) (fun ht H7 e7 => ?_) (fun ht7 H7 e7 => ?_)
          · have e47 := e46.trans e7
            obtain ⟨ys, z, rfl⟩ : ∃ ys z, zs = ys ++ [z] := ⟨zs.dropLast, zs.getLast (by intro q; rw [q] at hz2; exact absurd hz2 (by decide)), (List.dropLast_concat_getLast _).symm⟩
            have hyl : 1 ≤ ys.length ∧ ys.length ≤ 5 := by
              rw [List.length_append, List.length_singleton] at hz2 hzl
              omega
            have hmp : (ys ++ [z]).map (fun z : Addr × Chc => V.ref z.1) = ys.map (fun z : Addr × Chc => V.ref z.1) ++ [V.ref z.1] := by rw [List.map_append] <;> rfl
            obtain ⟨hz4a, hz4b⟩ := hz4
            rw [hmp] at hz4a
            have hzz := hz4b z (by simp)
            refine (ev_ixt (xs := [V.str "unsure", .ref ch]) rfl (st_of (e47 _ _ hd4)) rfl) H7 (Ex.refl _) _ fun H8 e8 => ?_
            have e48 := e47.trans e8
            refine ⟨1, rfl, -1, rfl, ch, _, rfl, st_of (e48 _ _ hz4a), fun q => ?_, fun c1 hc1 => ?_⟩
            · have q2 := q.2
              rw [List.length_append, List.length_singleton, sIx_m1 (Nat.le_add_left _ _)] at q2
              omega
            rw [cut_init] at *
            have x9 := Ex.new (o := .tup (ys.map fun z => V.ref z.1)) hc1
            have h19 := upd_same (H := H8) (a := c1) (o := .tup (ys.map fun z => V.ref z.1))
            have e49 := e48.trans x9
            generalize upd H8 c1 (.tup (ys.map fun z => V.ref z.1)) = H9 at x9 h19 e49 ⊢
            refine ⟨_, rfl, d, _, 1, _, rfl, rfl, st_of (e49 _ _ hd4), rfl, 1, rfl, ch, _, -1, _, rfl, rfl, st_of (e49 _ _ hz4a), atI_last _ _, 4, rfl, z.1, chv z.2, rfl, st_of (e49 _ _ hzz), (fun q => nomatch (show (4 : Nat) = 5 from q.2)), fun c2 hc2 => ⟨1, rfl, sz_of (by simp), fun c3 hc3 => ?_⟩⟩
            have x10 := Ex.new (o := .tup (cutV (chv z.2) none (some 4))) hc2
            have x11 := Ex.new (o := .tup [V.int (-1)]) hc3
            have h2B := x11 _ _ (upd_same (H := H9) (a := c2) (o := .tup (cutV (chv z.2) none (some 4))))
            have h3B := upd_same (H := upd H9 c2 (.tup (cutV (chv z.2) none (some 4)))) (a := c3) (o := .tup [V.int (-1)])
            have e4B := e49.trans (x10.trans x11)
            refine ⟨c2, c3, _, _, rfl, rfl, st_of h2B, st_of h3B, by rw [List.ne_nil_iff_length_pos]; show 0 < 4; decide, by show 4 + 1 ≤ sizeLine; decide, (fun z => by cases z), fun _ c4 hc4 => ?_⟩
            have x12 := Ex.new (o := .tup (cutV (chv z.2) none (some 4) ++ [V.int (-1)])) hc4
            refine ⟨sz_of (by simp), fun c5 hc5 => ?_⟩
            have x13 := Ex.new (o := .tup [V.ref c4]) hc5
            have h4C := x13 _ _ (upd_same (H := upd (upd H9 c2 (.tup (cutV (chv z.2) none (some 4)))) c3 (.tup [V.int (-1)])) (a := c4) (o := .tup (cutV (chv z.2) none (some 4) ++ [V.int (-1)])))
            have h5C := upd_same (H := upd (upd (upd H9 c2 (.tup (cutV (chv z.2) none (some 4)))) c3 (.tup [V.int (-1)])) c4 (.tup (cutV (chv z.2) none (some 4) ++ [V.int (-1)]))) (a := c5) (o := .tup [V.ref c4])
            have x9C := ((x10.trans x11).trans x12).trans x13
            have h1C := x9C _ _ h19
            refine ⟨c1, c5, _, _, rfl, rfl, st_of h1C, st_of h5C, by rw [List.ne_nil_iff_length_pos, List.length_map]; omega, sz_of (by rw [List.length_map]; show ys.length + 1 ≤ _; omega), (fun z => by cases z), fun _ c6 hc6 => ⟨sz_of (by simp), fun d2 hd2 => ?_⟩⟩
            have x14 := Ex.new (o := .tup ((ys.map fun z => V.ref z.1) ++ [V.ref c4])) hc6
            have x15 := Ex.new (o := .tup [V.str "unsure", .ref c6]) hd2
            have bP := ((b04.ex (e49.trans x9C)).ex x14)
            have nd2 : H d2 = none := bP.fresh (B4.ext ((e49.trans x9C).trans x14) (Nat.le_refl _)) hd2
            have e4F := ((e49.trans x9C).trans x14).trans x15
            dsimp only [gName, List.set]
            refine s_ret (ev_var rfl) fun HD eD => ?_
            have eA := e4F.trans eD
            obtain ⟨cc, hcc⟩ : ∃ cc : Chc, cc = (z.2.1, z.2.2.1, z.2.2.2.1, z.2.2.2.2.1, -1) := ⟨_, rfl⟩
            have h4c := ((x14.trans x15).trans eD) _ _ h4C
            have hZ : ChZ HD c6 (ys ++ [(c4, cc)]) := by
              refine ⟨(x15.trans eD) _ _ (by rw [upd_same, List.map_append] <;> rfl), fun u hu => ?_⟩
              rcases List.mem_append.mp hu with q | q
              · exact eA _ _ (hz4b u (List.mem_append_left _ q))
              · rw [List.mem_singleton.mp q]
                rw [hcc]
                exact h4c
            exact k d2 (.uns ((ys ++ [(c4, cc)]).map fun z => z.2)) HD (by show (List.map _ _).length ≤ 60; rw [List.length_map, List.length_append, List.length_singleton]; omega) nd2 ⟨c6, st_of (eD _ _ upd_same), hZ.toR⟩ (B4.ext eA (by omega)) (b04.ex eA)
          · refine s_ret (ev_var rfl) fun HD eD => ?_
            have eA := (e46.trans e7).trans eD
            exact k d (.uns (zs.map (·.2))) HD (by show (zs.map _).length ≤ 60; rw [List.length_map]; omega) nd0 ⟨ch, st_of (eA _ _ hd4), hz4.toR.ext eA⟩ (B4.ext eA (by omega)) (b04.ex eA)
    · have hw3 : wd = "lamp" ∨ wd = "post" ∨ wd = "pane" := by
        rcases hws with h | h
        · rw [h] at ht
          exact absurd ht (by decide +kernel)
        · exact h
      refine ⟨_, rfl, _, rfl, _, rfl, b, l, g, ns, n + 1, w, x, y, wd, rfl, B1.ext e2 (Nat.le_refl _), by omega, e2 _ _ hg1, G, hw3, fun d D H3 _ hDw nd3 hd3 B3 b3 => ?_⟩
      have b03 := (b01.ex e2).trans b3
      have nd0 : H d = none := (b01.ex e2).fresh (B1.ext e2 (Nat.le_refl _)) nd3
      dsimp only [gName, List.set]
      refine q_cut (M := fun σ' H4 => ∃ (d : Addr) (D : Deed) (v6 v7 : Option V), σ' = [some (.ref b), some (.ref g), some vm, some (.str wd), some (.ref d), none, v6, v7, none] ∧ H d = none ∧ H4 d = some (.tup D.vals) ∧ D.wd = wd ∧ BagAt H4 b l ns (n + 30) ∧ But H H4 b) ?_ ?_
      · refine ⟨_, rfl, b, l, ns, n + 11, 5, rfl, B3, by omega, by decide, by decide, fun u H4 u0 u1 B4 b4 => ?_⟩
        have b04 := b03.trans b4
        have hd4 : H4 d = some (.tup D.vals) := (bag_kp B3 b4).tup hd3
        refine ⟨rfl, _, rfl, ?_⟩
        dsimp only
        by_cases hu : u = 0
        · refine ite_T (decide_eq_true (by rw [hu])) ?_
          obtain ⟨many, hmany⟩ : ∃ many : Int, many = D.many := ⟨_, rfl⟩
          have hm5 : 4 ≤ many ∧ many ≤ 5 := by
            rw [hmany]
            cases D with
            | lamp c => exact (⟨by decide, by decide⟩ : (4 : Int) ≤ 5 ∧ (5 : Int) ≤ 5)
            | post B => exact (⟨by decide, by decide⟩ : (4 : Int) ≤ 4 ∧ (4 : Int) ≤ 5)
            | pane p q s => exact (⟨by decide, by decide⟩ : (4 : Int) ≤ 4 ∧ (4 : Int) ≤ 5)
          refine ⟨_, rfl, ?_⟩
          refine (ev_if (v := .int many) (b := !decide (V.str wd = .str "lamp")) (et_test (ev_op (ev_var rfl) ev_c (rv_ne rfl))) (fun hb => ?_) (fun hb => ?_)) H4 (Ex.refl _) _ fun H5 e5 => ?_
          · have e : many = 4 := by
              rw [hmany]
              cases D with
              | lamp c =>
                rw [← hDw] at hb
                exact absurd hb (show ¬ (!decide (V.str "lamp" = V.str "lamp")) = true by decide +kernel)
              | post B => rfl
              | pane p q s => rfl
            rw [e]
            exact ev_c
          · have e : many = 5 := by
              rw [hmany]
              cases D with
              | lamp c => rfl
              | post B =>
                rw [← hDw] at hb
                exact absurd hb (show ¬ (!decide (V.str "post" = V.str "lamp")) = false by decide +kernel)
              | pane p q s =>
                rw [← hDw] at hb
                exact absurd hb (show ¬ (!decide (V.str "pane" = V.str "lamp")) = false by decide +kernel)
            rw [e]
            exact ev_c
          refine ⟨b, l, ns, n + 12, many, rfl, B4.ext e5 (Nat.le_refl _), by omega, by omega, Int.lt_of_le_of_lt hm5.2 (by decide), fun v H6 v0 v1 B6 b6 => ⟨_, _, rfl, rfl, ?_⟩⟩
          dsimp only [gName, List.set]
          have b06 := (b04.ex e5).trans b6
          have hd6 : H6 d = some (.tup D.vals) := (bag_kp (B4.ext e5 (Nat.le_refl _)) b6).tup (e5 _ _ hd4)
          rw [hmany] at v1
          refine ⟨_, rfl, b, l, ns, n + 13, rfl, B6, by omega, fun z H7 z1 z2 B7 b7 => ?_⟩
          have b07 := b06.trans b7
          have hd7 : H7 d = some (.tup D.vals) := (bag_kp B6 b7).tup hd6
          obtain ⟨q0, hq0⟩ := (set_vals D v 0 v0 v1).q
          refine ⟨_, rfl, _, rfl, d, _, _, _, rfl, rfl, st_of hd7, hq0, _, _, rfl, rfl, _, rfl, _, rfl, d, _, _, _, rfl, rfl, st_of hd7, hq0, _, _, rfl, rfl, 1, rfl, sz_of (by simp), fun lp hlp => ?_⟩
          have x8 := Ex.new (o := .lst [V.int z, .int (q0 - 1), .int (q0 + 6), .int (-1)]) hlp
          have nlb : lp ≠ b := bag_ne B7 hlp
          refine ⟨_, rfl, b, l, ns, n + 15, 4, rfl, B7.ext x8 (Nat.le_refl _), by omega, by decide, by decide, fun u H9 u0 u1 B9 b9 => ?_⟩
          obtain ⟨zz, hzz⟩ : ∃ zz : Int, atI [V.int z, .int (q0 - 1), .int (q0 + 6), .int (-1)] u = some (.int zz) := by
            obtain rfl | rfl | rfl | rfl : u = 0 ∨ u = 1 ∨ u = 2 ∨ u = 3 := by omega
            all_goals exact ⟨_, rfl⟩
          refine ⟨lp, _, u, _, rfl, rfl, sq_of (b9 _ _ upd_same nlb), hzz, ?_⟩
          dsimp only [gName, List.set]
          have b09 := (b07.ex x8).trans b9
          have hd9 : H9 d = some (.tup D.vals) := (bag_kp (B7.ext x8 (Nat.le_refl _)) b9).tup (x8 _ _ hd7)
          have S := set_vals D v zz v0 v1
          have hv6 := vals_len D
          refine ⟨_, rfl, _, rfl, _, rfl, d, _, rfl, st_of hd9, (fun q => S.a q.2), fun c1 hc1 => ⟨_, rfl, sz_of (by simp), fun c2 hc2 => ?_⟩⟩
          have x10 := Ex.new (o := .tup (cutV D.vals none (some (1 + v)))) hc1
          have x11 := Ex.new (o := .tup [V.int zz]) hc2
          have g1 := x11 _ _ (upd_same (H := H9) (a := c1) (o := .tup (cutV D.vals none (some (1 + v)))))
          have g2 := upd_same (H := upd H9 c1 (.tup (cutV D.vals none (some (1 + v))))) (a := c2) (o := .tup [V.int zz])
          have l1 := cutV_length D.vals none (some (1 + v))
          have l3 := cutV_length D.vals (some (1 + v + 1)) none
          have n1 := S.n
          have SE := S.e
          have SB := S.b
          generalize hX1 : cutV D.vals none (some (1 + v)) = X1 at *
          refine ⟨c1, c2, _, _, rfl, rfl, st_of g1, st_of g2, List.ne_nil_iff_length_pos.mpr n1, sz_of (by show X1.length + 1 ≤ _; omega), (fun z => by cases z), fun _ c3 hc3 => ?_⟩
          have x12 := Ex.new (o := .tup (X1 ++ [V.int zz])) hc3
          have x9C := (x10.trans x11).trans x12
          refine ⟨_, rfl, _, rfl, _, _, rfl, rfl, _, rfl, d, _, rfl, st_of (x9C _ _ hd9), (fun q => SB q.1), fun c4 hc4 => ?_⟩
          have x13 := Ex.new (o := .tup (cutV D.vals (some (1 + v + 1)) none)) hc4
          have g3 := x13 _ _ (upd_same (H := upd (upd H9 c1 (.tup X1)) c2 (.tup [V.int zz])) (a := c3) (o := .tup (X1 ++ [V.int zz])))
          have g4 := upd_same (H := upd (upd (upd H9 c1 (.tup X1)) c2 (.tup [V.int zz])) c3 (.tup (X1 ++ [V.int zz]))) (a := c4) (o := .tup (cutV D.vals (some (1 + v + 1)) none))
          have x9D := x9C.trans x13
          generalize cutV D.vals (some (1 + v + 1)) none = X3 at *
          have nd3 : H c3 = none := (b09.ex (x10.trans x11)).fresh (B9.ext (x10.trans x11) (Nat.le_refl _)) hc3
          have bD := b09.ex x9D
          have BD := B9.ext (m := n + 30) x9D (by omega)
          refine ⟨c3, c4, _, _, rfl, rfl, st_of g3, st_of g4, by simp, sz_of (by rw [List.length_append, List.length_singleton]; omega), fun z => ?_, fun _ c5 hc5 => ?_⟩
          · dsimp only [gName, List.set]
            rw [z, List.append_nil] at SE
            exact ⟨c3, _, _, _, rfl, nd3, g3.trans (congrArg (fun x => some (HO.tup x)) SE), by rw [setAt_wd]; exact hDw, BD, bD⟩
          · dsimp only [gName, List.set]
            have x14 := Ex.new (o := .tup (X1 ++ [V.int zz] ++ X3)) hc5
            have g5 := upd_same (H := upd (upd (upd (upd H9 c1 (.tup X1)) c2 (.tup [V.int zz])) c3 (.tup (X1 ++ [V.int zz]))) c4 (.tup X3)) (a := c5) (o := .tup (X1 ++ [V.int zz] ++ X3))
            exact ⟨c5, _, _, _, rfl, bD.fresh BD hc5, g5.trans (congrArg (fun x => some (HO.tup x)) SE), by rw [setAt_wd]; exact hDw, BD.ext x14 (Nat.le_refl _), bD.ex x14⟩
        · refine ite_F (decide_eq_false fun z => hu (V.int.inj z)) ?_
          exact ⟨d, D, _, _, rfl, nd0, hd4, hDw, B4.ext (Ex.refl _) (by omega), b04⟩
      · rintro σ' H4 ⟨d, D, v6, v7, rfl, nd, hd, hDw, B4, b4⟩
        have fin : ∀ (d : Addr) (D : Deed) (H5 : Hp) (v5 v6 v7 : Option V), H d = none → H5 d = some (.tup D.vals) → BagAt H5 b l ns (n + 60) → But H H5 b → tRet (tVar 4) { nx := fun _ H' => Q .non H', rt := Q } [some (.ref b), some (.ref g), some vm, some (.str wd), some (.ref d), v5, v6, v7, none] H5 := fun d D H5 v5 v6 v7 nd hd B5 b5 => s_ret (ev_var rfl) fun H6 e6 => k d (.one D) H6 True.intro nd (show SqT K H6 d D.vals from st_of (e6 _ _ hd)) (B5.ext e6 (by omega)) (b5.ex e6)
        refine ⟨_, rfl, rfl, _, rfl, ?_⟩
        dsimp only
        by_cases hp : wd = "pane"
        · refine ite_T (decide_eq_true (by rw [hp])) ?_
          refine ⟨_, rfl, b, l, ns, n + 30, 6, rfl, B4, by omega, by decide, by decide, fun u H5 u0 u1 B5 b5 => ⟨rfl, _, rfl, ?_⟩⟩
          dsimp only
          have b05 := b4.trans b5
          have hd5 : H5 d = some (.tup D.vals) := (bag_kp B4 b5).tup hd
          by_cases hu : u = 0
          · refine ite_T (decide_eq_true (by rw [hu])) ?_
            cases D with
            | lamp c => exact absurd (hDw.trans hp) (show ¬ (("lamp" : Str) = "pane") by decide +kernel)
            | post Bk => exact absurd (hDw.trans hp) (show ¬ (("post" : Str) = "pane") by decide +kernel)
            | pane p q z0 =>
              replace hd5 : H5 d = some (.tup [.str "pane", .int p.1, .int p.2, .int q.1, .int q.2, .str z0]) := hd5
              refine (et_test (ev_op (ev_ixt (xs := [V.str "pane", .int p.1, .int p.2, .int q.1, .int q.2, .str z0]) rfl (st_of hd5) rfl) ev_c rv_I0)) H5 (Ex.refl _) _ fun H6 e6 => ?_
              have hd6 := e6 _ _ hd5
              by_cases hneg : p.1 < 0
              · refine ite_T (decide_eq_true hneg) ?_
                refine ⟨_, rfl, 5, rfl, d, _, rfl, st_of hd6, (fun q => nomatch (show (5 : Nat) = 6 from q.2)), fun c1 hc1 => ⟨sz_of (by simp), fun lp hlp => ?_⟩⟩
                have x7 := Ex.new (o := .tup (cutV [V.str "pane", .int p.1, .int p.2, .int q.1, .int q.2, .str z0] none (some 5))) hc1
                have g1 := upd_same (H := H6) (a := c1) (o := .tup (cutV [V.str "pane", .int p.1, .int p.2, .int q.1, .int q.2, .str z0] none (some 5)))
                have x8 := Ex.new (o := .lst [V.str "gr", .str "x"]) hlp
                have B6 := B5.ext ((e6.trans x7).trans x8) (Nat.le_refl _)
                have nlb : lp ≠ b := bag_ne (B5.ext (e6.trans x7) (Nat.le_refl _)) hlp
                refine ⟨_, rfl, b, l, ns, n + 31, 2, rfl, B6, by omega, by decide, by decide, fun v H9 v0 v1 B9 b9 => ?_⟩
                obtain ⟨zz, hzz⟩ : ∃ zz : Str, atI [V.str "gr", .str "x"] v = some (.str zz) := by
                  obtain rfl | rfl : v = 0 ∨ v = 1 := by omega
                  all_goals exact ⟨_, rfl⟩
                have b09 := (b05.ex ((e6.trans x7).trans x8)).trans b9
                refine ⟨lp, _, v, _, rfl, rfl, sq_of (b9 _ _ upd_same nlb), hzz, sz_of (by simp), fun c2 hc2 => ?_⟩
                have x10 := Ex.new (o := .tup [V.str zz]) hc2
                have g19 := x10 _ _ ((bag_kp B6 b9).tup (x8 _ _ g1))
                refine ⟨c1, c2, _, _, rfl, rfl, st_of g19, st_of upd_same, by rw [List.ne_nil_iff_length_pos]; show 0 < 5; decide, by show 5 + 1 ≤ sizeLine; decide, (fun z => by cases z), fun _ c3 hc3 => ?_⟩
                dsimp only [gName, List.set]
                have x11 := Ex.new (o := .tup (cutV [V.str "pane", .int p.1, .int p.2, .int q.1, .int q.2, .str z0] none (some 5) ++ [V.str zz])) hc3
                exact fin c3 (.pane p q zz) _ _ _ _ ((b09.ex x10).fresh (B9.ext x10 (Nat.le_refl _)) hc3) upd_same ((B9.ext x10 (Nat.le_refl _)).ext x11 (by omega)) ((b09.ex x10).ex x11)
              · refine ite_F (decide_eq_false hneg) ?_
                refine ⟨_, rfl, 3, rfl, d, _, rfl, st_of hd6, (fun q => nomatch (show (3 : Nat) = 6 from q.2)), fun c1 hc1 => ?_⟩
                have x7 := Ex.new (o := .tup (cutV [V.str "pane", .int p.1, .int p.2, .int q.1, .int q.2, .str z0] none (some 3))) hc1
                have g1 := upd_same (H := H6) (a := c1) (o := .tup (cutV [V.str "pane", .int p.1, .int p.2, .int q.1, .int q.2, .str z0] none (some 3)))
                refine ⟨_, rfl, 1, rfl, 3, rfl, d, _, rfl, st_of (x7 _ _ hd6), (fun q => nomatch (show (1 : Nat) = 0 from q.1)), fun c2 hc2 => ?_⟩
                have x8 := Ex.new (o := .tup (cutV [V.str "pane", .int p.1, .int p.2, .int q.1, .int q.2, .str z0] (some 1) (some 3))) hc2
                refine ⟨c1, c2, _, _, rfl, rfl, st_of (x8 _ _ g1), st_of upd_same, by rw [List.ne_nil_iff_length_pos]; show 0 < 3; decide, by show 3 + 2 ≤ sizeLine; decide, (fun z => by cases z), fun _ c3 hc3 => ?_⟩
                have x9 := Ex.new (o := .tup (cutV [V.str "pane", .int p.1, .int p.2, .int q.1, .int q.2, .str z0] none (some 3) ++ cutV [V.str "pane", .int p.1, .int p.2, .int q.1, .int q.2, .str z0] (some 1) (some 3))) hc3
                have x79 := (x7.trans x8).trans x9
                refine ⟨_, rfl, 5, rfl, d, _, rfl, st_of (x79 _ _ hd6), (fun q => nomatch (show (5 : Nat) = 0 from q.1)), fun c4 hc4 => ?_⟩
                have x10 := Ex.new (o := .tup (cutV [V.str "pane", .int p.1, .int p.2, .int q.1, .int q.2, .str z0] (some 5) none)) hc4
                refine ⟨c3, c4, _, _, rfl, rfl, st_of (x10 _ _ upd_same), st_of upd_same, by rw [List.ne_nil_iff_length_pos]; show 0 < 5; decide, by show 5 + 1 ≤ sizeLine; decide, (fun z => by cases z), fun _ c5 hc5 => ?_⟩
                dsimp only [gName, List.set]
                have x11 := Ex.new (o := .tup (cutV [V.str "pane", .int p.1, .int p.2, .int q.1, .int q.2, .str z0] none (some 3) ++ cutV [V.str "pane", .int p.1, .int p.2, .int q.1, .int q.2, .str z0] (some 1) (some 3) ++ cutV [V.str "pane", .int p.1, .int p.2, .int q.1, .int q.2, .str z0] (some 5) none)) hc5
                have e610 := e6.trans (x79.trans x10)
                exact fin c5 (.pane p p z0) _ _ _ _ ((b05.ex e610).fresh (B5.ext e610 (Nat.le_refl _)) hc5) upd_same ((B5.ext e610 (Nat.le_refl _)).ext x11 (by omega)) ((b05.ex e610).ex x11)
          · refine ite_F (decide_eq_false fun z => hu (V.int.inj z)) ?_
            exact fin d D H5 _ _ _ nd hd5 (B5.ext (Ex.refl _) (by omega)) b05
        · refine ite_F (decide_eq_false fun z => hp (V.str.inj z)) ?_
          exact fin d D H4 _ _ _ nd hd (B4.ext (Ex.refl _) (by omega)) b4
end
end Hs
namespace Hs
open PySem PySem.Spec PyProof.Rows L2 Evl LamX NdefX
theorem Kp.trans {H H1 H2 : Hp} (a : Kp H H1) (b : Kp H1 H2) : Kp H H2 := ⟨fun _ _ h => b.1 _ _ (a.1 _ _ h), fun _ _ _ h => b.2 _ _ _ (a.2 _ _ _ h)⟩
section
variable {K : PySem.W.Frag} {C : Addr} {H H' : Hp}
theorem HsX.extN {n : Nat} {h dx p q : Addr} {m : Nat} {S : Stt} (a : HsX K C n H h dx p q m S) (e : LamX.ExtN H H') : HsX K C n H' h dx p q m S := by
  obtain ⟨fs, h1, _⟩ := a.ins
  obtain ⟨⟨xs1, h2⟩, xs2, h3⟩ := a.lsts
  refine a.keep (Kp.ofN e) (fun o z => ?_) (fun o z => ?_) (fun o z => ?_) (Nat.le_refl _)
  · rw [h1] at z
    cases z
    exact e _ _ h1 fun ps q => by cases q
  · rw [h2] at z
    cases z
    exact e _ _ h2 fun ps q => by cases q
  · rw [h3] at z
    cases z
    exact e _ _ h3 fun ps q => by cases q
theorem HsX.new {n : Nat} {h dx p q pp : Addr} {m : Nat} {S : Stt} (a : HsX K C n H h dx p q m S) (np : H pp = none) : pp ≠ h ∧ pp ≠ p ∧ pp ≠ q := by
  obtain ⟨_, h1, _⟩ := a.ins
  obtain ⟨⟨_, h2⟩, _, h3⟩ := a.lsts
  exact ⟨Ne.symm (ne_of_none h1 np), Ne.symm (ne_of_none h2 np), Ne.symm (ne_of_none h3 np)⟩
theorem tabs_keptX {T : List (Addr × Str)} {n : Nat} {h dx p q : Addr} {m : Nat} {S : Stt} (t : LamX.Tabs T H) (a : HsX K C n H h dx p q m S) (k : Kept H H' h p q) : LamX.Tabs T H' := fun z hz => by
  obtain ⟨fs, h1, _⟩ := a.ins
  obtain ⟨⟨xs1, h2⟩, xs2, h3⟩ := a.lsts
  obtain ⟨ps, g1, g2, g3⟩ := t z hz
  refine ⟨ps, k _ _ g1 (ne_of g1 h1 (by intro z; cases z)) (ne_of g1 h2 (by intro z; cases z)) (ne_of g1 h3 (by intro z; cases z)), g2, fun pos cv hc => ?_⟩
  obtain ⟨c, e1, e2⟩ := g3 pos cv hc
  exact ⟨c, e1, k _ _ e2 (ne_of e2 h1 (by intro z; unfold LamX.CodeO at z; cases z)) (ne_of e2 h2 (by intro z; unfold LamX.CodeO at z; cases z)) (ne_of e2 h3 (by intro z; unfold LamX.CodeO at z; cases z))⟩
end
/-- what the catcher tells of such a function -/
theorem tried_of {P : Program} {w : World} {K : PySem.W.Frag} {mg : Str → Option Value} {base : Heap} {k : Nat} {q : Str} {cN cL cK cB cS cM cC : Addr} {H : Hp} {Q : VK} {E : XK} {f : Addr} {F : LF} {fr : List Str} {ws : List (Option V)} {sp : List (Option V) → Sp} (Fn : LOk P w K mg base (L2.CX P w) k F [] fr sp) (hC : CellsAt F.cl fr ws base fun _ => none) (hq : F.qual = q)
    (hf : H f = some (LamO f F)) (hc : H F.c = some (CodeO F.c F.qual)) (h : ∀ (Q' : VK) (E' : XK), (∀ (C dd : Addr) (wd : Str) (H' : Hp), Word K C cN cL cK cB cS cM cC → H' dd = some (.xd [("word", .str wd)]) → (∀ p, H' p = none → Q (.ref p) (upd H' p (.tup [.str wd]))) → E' (.ref C) (some dd) H') →
      (∀ v H1, (∀ p, H1 p = none → Q (.ref p) (upd H1 p (.tup [.str "told", v]))) → Q' v H1) → sp ws [] H Q' E') : spTried P w K mg base k q cN cL cK cB cS cM cC [.ref f] H Q E :=
  ⟨f, _, rfl, ⟨F, fr, ws, sp, hq, Fn, hC, hf, hc, rfl⟩, hf, h _ _ (fun C dd wd H' wc hd kk => ⟨C, dd, _, wd, rfl, rfl, wc, hd, rfl, kk⟩) (fun v H1 kk => ⟨sz_of (by simp), kk⟩)⟩
end Hs
namespace Hs
open PySem PySem.Spec PyProof.Rows L2 Evl LamX NdefX
def wrds7 : List Str := ["badplace", "badlight", "badmenu", "badblock", "badpiece", "badsift", "full"]
theorem badC_mem {c : Chc} {wd : Str} (h : badC c = some wd) : wd ∈ wrds7 := by
  unfold badC at h
  split at h
  · split at h
    · cases h
    · cases h
      decide +kernel
  · cases h
    decide +kernel
theorem badU_mem {S : Stt} {D : DeedU} {wd : Str} (h : badU S D = some wd) : wd ∈ wrds7 := by
  have f : ∀ {p : Prop} [Decidable p], (if p then some ("full" : Str) else none) = some wd → wd ∈ wrds7 := fun {p} _ h => by
    split at h
    · cases h
      decide +kernel
    · cases h
  cases D with
  | uns cs =>
    rw [badU_uns] at h
    split at h
    · cases h
      decide +kernel
    · cases hb : badCs cs with
      | some w =>
        rw [hb] at h
        cases h
        unfold badCs at hb
        obtain ⟨c, _, hc⟩ := List.exists_of_findSome?_eq_some hb
        exact badC_mem hc
      | none =>
        rw [hb] at h
        exact f h
  | one D =>
    replace h : badD S D = some wd := h
    cases D with
    | lamp c =>
      replace h : (match badC c with | some w => some w | none => if 12 ≤ S.fl.lamps.length then some ("full" : Str) else none) = some wd := h
      cases hb : badC c with
      | some w =>
        rw [hb] at h
        cases h
        exact badC_mem hb
      | none =>
        rw [hb] at h
        exact f h
    | post B =>
      rw [bad_p] at h
      split at h
      · cases h
        decide +kernel
      · split at h
        · cases h
          decide +kernel
        · exact f h
    | pane a b z =>
      rw [bad_n] at h
      split at h
      · cases h
        decide +kernel
      · split at h
        · cases h
          decide +kernel
        · split at h
          · cases h
            decide +kernel
          · exact f h
theorem wd1_ok {wd : Str} (h : wd ∈ wrds7) : SeqAt.shaped (.tuple [.str wd]) = true := by
  simp only [wrds7, List.mem_cons, List.not_mem_nil, or_false] at h
  rcases h with rfl | rfl | rfl | rfl | rfl | rfl | rfl <;> decide +kernel
theorem wd1_eq (wd : Str) : PyData.eqv (.tuple [.str wd]) (.tuple [.str wd]) = true := by simp [PyData.eqv, PyData.eqvAll]
theorem dOk_told (n : Int) : dOk 6 (.tuple [.str "told", .int n]) := ⟨by show 2 ≤ 1000; decide, fun d hd => by
  simp only [List.mem_cons, List.not_mem_nil, or_false] at hd
  rcases hd with rfl | rfl <;> exact True.intro⟩
def telQ : Str := ("_law_tells" : Str) ++ ".<locals>." ++ "<lambda>"
/-- what a deed leaves of a house that refuses some -/
def Stt.didU (S : Stt) (D : DeedU) : Stt := match badU S D with
  | some _ => S
  | none => S.putU D
def spTells (K : PySem.W.Frag) (C : Addr) (T : List (Addr × Str)) : Sp := fun vs H Q _ => ∃ (h m d dx p q : Addr) (k : Nat) (vb : V) (M : Md) (D : DeedU), vs = [.ref h, .ref m, .ref d, vb] ∧ Tabs T H ∧ HsX K C 20 H h dx p q k (stOf M) ∧ k ≤ 500 ∧ MdA K 20 H m M ∧ D.At K H d ∧ D.fit ∧ OkC (stOf M) ∧ BadV H vb (badU (stOf M) D) ∧
  ∀ H', Kp H H' → (∀ a xs, H a = some (.lst xs) → a ≠ p → a ≠ q → H' a = some (.lst xs)) → Tabs T H' → HsX K C 20 H' h dx p q (k + 1) ((stOf M).didU D) → Q (.bl true) H'
section
variable {P : Program} {w : World} {K : PySem.W.Frag} {mg : Str → Option Value} {base : Heap} {C c pt : Addr} {cN cL cK cB cS cM cC : Addr} {T : List (Addr × Str)} {W : Str → Addr}
abbrev sTells : Stmt := top 130
theorem scTells : FnScope ["_law_house", "_law_m", "_law_deed", "_law_bad", "_law_found"] ["_law_house", "_law_m", "_law_deed", "_law_bad"] (defScope sTells) := ⟨rfl, rfl, rfl, by decide +kernel, rfl, by decide +kernel, by decide +kernel⟩
theorem tells_body {A : Around} {outer : List Env} {s : Shared} {H : Hp} {E : XK} {f : Addr} (hr : Room 10 (A.deeper (envOfC "_law_tells" (defScope sTells) s.heap.objs.size f (.ref c))))
    (O__law_tried : ∀ base', (∀ b o, base.get? b = some o → base'.get? b = some o) → Own P w K mg base' 10 "_law_tried" ["_law_act"] (spTried P w K mg base' 9 telQ cN cL cK cB cS cM cC)) (O__law_same : Own P w K mg base 6 "_law_same" ["_law_got", "_law_due"] (spSame K 6)) (O__law_number_due : Own P w K mg base 1 "_law_number_due" ["_law_m", "_law_deed"] (spNumD K))
    (MD : ∀ base', (∀ b o, base.get? b = some o → base'.get? b = some o) → MetX P w K mg base' 7 C "do" ["self", "deed"] [] (spPutR K C W)) (hW : ∀ wd ∈ wrds7, Word K (W wd) cN cL cK cB cS cM cC)
    (TB : TabB base mg c pt) (hmT : (pt, telQ) ∈ T) (huT : ∀ p ∈ T, p.1 = pt → p.2 = telQ) {vs : List V} {Q : VK} (h : spTells K C T vs H Q E) :
    ∃ t, PSs (cxOf CX0 P w K mg base ["_law_house", "_law_m", "_law_deed", "_law_bad", "_law_found"] "_law_tells" (defScope sTells) f (.ref c) A outer s H E) (defBody sTells) t ∧ t { nx := fun _ H' => Q .non H', rt := Q } (L2.start ["_law_house", "_law_m", "_law_deed", "_law_bad", "_law_found"] vs) H := by
  have nd := scTells.nd
  refine ⟨_, PSs.nox (pss_cons (ps_set (i := 4) nd rfl (.inl rfl) (Hs.pe_ownB (sp := fun base => spTried P w K mg base 9 telQ cN cL cK cB cS cM cC) O__law_tried (fun _ => rfl) hr (by decide) (by rfl) (pa_cons (Hs.pe_lam (T := T) TB rfl hmT huT rfl (Hs.free_by (sc := defScope sTells) (by decide +kernel))) pa_nil)))
  (pss_one (ps_ret (pe_ifExp (pt_cmpR op_notN (pv 3) pe_non (nomark _)) (pe_cmpR (op_eqD hr.units) (pv 4) (pv 3) (nomark _)) (Hs.pe_own O__law_same hr (by first | decide | omega) (by rfl) (pa_cons (pv 4) (pa_cons (pe_tup (pa_cons pe_str (pa_cons (Hs.pe_own O__law_number_due hr (by first | decide | omega) (by rfl) (pa_cons (pv 1) (pa_cons (pv 2) pa_nil))) pa_nil))) pa_nil))))))), ?_⟩
  obtain ⟨h, m, d, dx, p, q, kk, vb, M, D, rfl, hT, a, hk, hM, hd, hfit, hok, hvb, k⟩ := h
  refine ⟨hT, fun f1 c1 H1 eN _ T1 _ hf1 hc1 base' up clo => ?_⟩
  have a1 := a.extN eN
  obtain ⟨fs2, hin, hfl2⟩ := a1.ins
  have hd1 : D.At K H1 d := DeedU.At.kp hd (Kp.ofN eN)
  have hM1 := hM.keep (Kp.ofN eN)
  have hv1 : BadV H1 vb (badU (stOf M) D) := by
    cases hb : badU (stOf M) D with
    | none =>
      rw [hb] at hvb
      exact hvb
    | some wd =>
      rw [hb] at hvb
      exact let ⟨p, a, b⟩ := hvb; ⟨p, a, (Kp.ofN eN).tup b⟩
  have l1 : ∀ a xs, H a = some (.lst xs) → H1 a = some (.lst xs) := fun a xs h => eN _ _ h (fun _ z => by cases z)
  refine tried_of (k := 9) (fr := ["_law_deed", "_law_house"]) (ws := [some (.ref d), some (.ref h)]) (sp := fun ws vs H Q E => vs = [] ∧ tMeth C "do" (spPutR K C W) [] E (tVar 1) (tCons (tVar 0) tNil) (NdefX.startF ["_law_deed", "_law_house"] [] ws) H Q) ?LO ?CC rfl hf1 hc1 fun Q' E' hE hQ => ⟨rfl, _, rfl, h, dx, fs2, rfl, hin, hfl2 "do" (by decide +kernel), _, rfl, h, d, dx, p, q, kk, stOf M, D, rfl, hd1, hfit, hok, a1, hk, fun wd hw => ?_, fun hn => ?_⟩
  case LO => exact lok_gen rfl (NdefX.nscope_by (by rfl)) fun A outer s H f E hr => pe_metX (MD base' up) hr (by decide) (passes_call (E := E) (takes_of rfl rfl rfl rfl) (fun _ _ _ _ h => h)) (pe_var (i := 1) rfl (.inr (.inr rfl))) (pa_cons (pe_var (i := 0) rfl (.inr (.inr rfl))) pa_nil)
  case CC =>
    refine clo _ ["_law_deed", "_law_house"] [2, 0] fun ok => ?_
    dsimp only
    refine caps_ns ok ?_ ?_ rfl
    · exact free_by (sc := defScope sTells) (by decide +kernel)
    · decide +kernel
  · intro dd H2 e2 nd2 hd2
    refine hE (W wd) dd wd H2 (hW wd (badU_mem hw)) hd2 fun pf hpf => ?_
    have x3 := Ex.new (o := .tup [V.str wd]) hpf
    rw [hw] at hv1
    obtain ⟨pb, rfl, hpb⟩ := hv1
    have e3 := e2.trans x3
    have hpf3 := upd_same (H := H2) (a := pf) (o := .tup [V.str wd])
    dsimp only [gName, List.set]
    refine ret_if (b := true) (et_is (et_test (fun H5 e5 Q' q' => ⟨_, rfl, rfl, q' H5 (Ex.refl H5)⟩)) rfl) (fun _ H5 e5 => ?_) (fun ht => nomatch ht)
    refine s_ret (v := .bl true) (fun H6 e6 Q6 q6 => ⟨_, rfl, _, rfl, .tuple [.str wd], .tuple [.str wd], .tup (st_of ((e5.trans e6) _ _ hpf3)) (.cons (.str _) .nil), .tup (st_of (((e3.trans e5).trans e6) _ _ hpb)) (.cons (.str _) .nil), wd1_ok (badU_mem hw), wd1_ok (badU_mem hw), by rw [wd1_eq]; exact q6 H6 (Ex.refl _)⟩) fun H7 e7 => ?_
    have e17 := (e3.trans e5).trans e7
    have eq : (stOf M).didU D = stOf M := by unfold Stt.didU; rw [hw]
    refine k H7 ((Kp.ofN eN).trans (Kp.of e17)) (fun a xs h _ _ => e17 _ _ (l1 a xs h)) (T1.ext e17) ?_
    rw [eq]
    exact (a1.ext e17).keep (Kp.of (Ex.refl _)) (fun _ z => z) (fun _ z => z) (fun _ z => z) (Nat.le_succ _)
  · intro H2 kt a2
    refine hQ _ H2 fun pf hpf => ?_
    have x3 := Ex.new (o := .tup [V.str "told", V.int (D.num (stOf M))]) hpf
    have hpf3 := upd_same (H := H2) (a := pf) (o := .tup [V.str "told", V.int (D.num (stOf M))])
    rw [hn] at hv1
    have hvn : vb = .non := hv1
    subst hvn
    have kp2 := a1.kp kt
    have T2 := tabs_keptX T1 a1 kt
    dsimp only [gName, List.set]
    refine ret_if (b := false) (et_is (et_test (fun H5 e5 Q' q' => ⟨_, rfl, rfl, q' H5 (Ex.refl H5)⟩)) rfl) (fun ht => nomatch ht) (fun _ H5 e5 => ?_)
    have e25 := x3.trans e5
    refine ⟨_, rfl, _, rfl, _, rfl, m, d, M, D, rfl, (hM1.keep kp2).ext e25, DeedU.At.kp hd1 (kp2.trans (Kp.of e25)), fun H6 e6 => ⟨sz_of (by simp), fun pt2 hpt2 => ?_⟩⟩
    have x7 := Ex.new (o := .tup [V.str "told", V.int (D.num (stOf M))]) hpt2
    refine ⟨_, _, rfl, sm_dp (dOk_told (D.num (stOf M))) (.tup (st_of (((e5.trans e6).trans x7) _ _ hpf3)) (.cons (.str _) (.cons (.int _) .nil))) (.tup (st_of upd_same) (.cons (.str _) (.cons (.int _) .nil))), fun H8 e8 => ?_⟩
    have e28 := ((e25.trans e6).trans x7).trans e8
    have eq : (stOf M).didU D = (stOf M).putU D := by unfold Stt.didU; rw [hn]
    have hne : ∀ a xs, H a = some (.lst xs) → a ≠ h := fun a xs ha z => by
      have z1 := l1 a xs ha
      rw [z, hin] at z1
      cases z1
    refine k H8 (((Kp.ofN eN).trans kp2).trans (Kp.of e28)) (fun a xs ha n1 n2 => e28 _ _ (kt _ _ (l1 a xs ha) (hne a xs ha) n1 n2)) (T2.ext e28) ?_
    rw [eq]
    exact a2.ext e28
end
end Hs
namespace Hs
open PySem PySem.Spec PyProof.Rows L2 Evl
/-! ### what stands of the law's model after each deed -/
structure Inv42 (M : Md) : Prop where
  k : M.looks = []
  l : ∀ x ∈ M.lamps, 1 ≤ x.2.1.length ∧ x.2.1.length ≤ 6
  p : PR (cntsS (stOf M)).reverse ≤ 200
theorem cntsS_eq (M : Md) : cntsS (stOf M) = cnts (nOn (lsM M)) := by
  unfold cntsS
  rw [nOn_stOf]
theorem Inv42.ok {M : Md} (h : Inv42 M) (hl : M.lamps.length ≤ 12) : OkC (stOf M) := by
  have hm : ∀ z ∈ nOn (lsM M), 1 ≤ z.1 ∧ z.1 ≤ 6 := fun z hz => by
    unfold nOn lsM at hz
    rw [List.map_map] at hz
    obtain ⟨x, hx, rfl⟩ := List.mem_map.mp hz
    exact h.l x hx
  refine ⟨?_, fun z hz => ?_⟩
  · rw [cntsS_eq]
    refine ⟨?_, fun c hc => ?_⟩
    · unfold cnts
      rw [List.length_map]
      refine Nat.le_trans (List.length_filter_le ..) ?_
      rw [nOn_len, lsM_len]
      omega
    · unfold cnts at hc
      obtain ⟨z, hz, rfl⟩ := List.mem_map.mp hc
      have := hm z (List.mem_filter.mp hz).1
      omega
  · rw [nOn_stOf] at hz
    have := hm z hz
    omega
theorem inv_new : Inv42 Md.new := ⟨rfl, (fun x hx => by cases hx), by decide⟩
theorem cnts_put (M : Md) (k : Int) (cs : List Chc) (M' : Md) (h : M'.lamps = M.lamps ++ [(k, (cs, 0, 0, true))]) : cntsS (stOf M') = cntsS (stOf M) ++ (if 1 < cs.length then [(cs.length : Int)] else []) := by
  rw [cntsS_eq, cntsS_eq]
  unfold lsM nOn cnts
  rw [h, List.map_append, List.map_append, List.filter_append, List.map_append]
  congr 1
  show List.map _ (List.filter _ [(cs.length, true)]) = _
  by_cases hc : 1 < cs.length
  · rw [if_pos hc, List.filter_cons_of_pos (by simpa using hc)] <;> rfl
  · rw [if_neg hc, List.filter_cons_of_neg (by simpa using hc)] <;> rfl
theorem pr_snoc (l : List Int) (c : Int) : PR (l ++ [c]).reverse = PR l.reverse * c := by
  rw [List.reverse_append] <;> rfl
theorem Inv42.put {M : Md} {D : DeedU} (h : Inv42 M) (hb : badU (stOf M) D = none) : Inv42 (M.putU D) := by
  have add : ∀ (M' : Md) (k : Int) (cs : List Chc), M'.lamps = M.lamps ++ [(k, (cs, 0, 0, true))] → M'.looks = M.looks → 1 ≤ cs.length → cs.length ≤ 6 → PR (cntsS (stOf M)).reverse * cs.length ≤ 200 → Inv42 M' := fun M' k cs e1 e2 h1 h6 hp => by
    refine ⟨e2.trans h.k, fun x hx => ?_, ?_⟩
    · rw [e1] at hx
      rcases List.mem_append.mp hx with q | q
      · exact h.l x q
      · rw [List.mem_singleton.mp q]
        exact ⟨h1, h6⟩
    · rw [cnts_put M k cs M' e1]
      by_cases hc : 1 < cs.length
      · rw [if_pos hc, pr_snoc]
        exact hp
      · rw [if_neg hc, List.append_nil]
        exact h.p
  cases D with
  | uns cs =>
    rw [badU_uns] at hb
    by_cases hm : cs.length < 2 ∨ 6 < cs.length ∨ ¬ cs.Nodup
    · rw [if_pos hm] at hb
      cases hb
    · rw [if_neg hm] at hb
      cases hbc : badCs cs with
      | some w =>
        rw [hbc] at hb
        cases hb
      | none =>
        rw [hbc] at hb
        replace hb : (if 200 < PR (cntsS (stOf M)).reverse * cs.length ∨ 12 ≤ (stOf M).fl.lamps.length then some ("full" : Str) else none) = none := hb
        by_cases hf : 200 < PR (cntsS (stOf M)).reverse * cs.length ∨ 12 ≤ (stOf M).fl.lamps.length
        · rw [if_pos hf] at hb
          cases hb
        · exact add _ M.cl cs rfl rfl (by omega) (by omega) (by omega)
  | one D =>
    cases D with
    | lamp c => exact add _ M.cl [c] rfl rfl (Nat.le_refl 1) (by show 1 ≤ 6; decide) (by show PR (cntsS (stOf M)).reverse * ((1 : Nat) : Int) ≤ 200; have := h.p; omega)
    | post B => exact ⟨h.k, h.l, h.p⟩
    | pane a b z => exact ⟨h.k, h.l, h.p⟩
theorem good_20 {S : Stt} {D : Deed} (hb : badD S D = none) : D.good 20 := by
  cases D with
  | lamp c =>
    replace hb : (match badC c with | some w => some w | none => if 12 ≤ S.fl.lamps.length then some ("full" : Str) else none) = none := hb
    cases hc : badC c with
    | some w =>
      rw [hc] at hb
      cases hb
    | none => exact badC_none hc
  | post B =>
    rw [bad_p] at hb
    split at hb
    · cases hb
    · split at hb
      · cases hb
      · have i := Classical.not_not.mp ‹¬ ¬ InFar _›
        exact ⟨i, Classical.not_not.mp ‹¬ ¬ (_ ∧ _)›, bd_far i (by simp), bd_far i (by simp), bd_far i (by simp), bd_far i (by simp)⟩
  | pane a b z =>
    rw [bad_n] at hb
    split at hb
    · cases hb
    · split at hb
      · cases hb
      · split at hb
        · cases hb
        · have i := Classical.not_not.mp ‹¬ ¬ (InFar _ ∧ InFar _)›
          have ne : ¬ a = b := ‹¬ a = b›
          have g : ¬ good z = false := ‹¬ good z = false›
          exact ⟨i, fun e => ne (Prod.ext e.1 e.2), by simpa using g, ⟨bd_far i.1 (by simp), bd_far i.1 (by simp)⟩, bd_far i.2 (by simp), bd_far i.2 (by simp)⟩
end Hs
namespace Hs
open PySem PySem.Spec PyProof.Rows L2 Evl
theorem open_sameE {K : PySem.W.Frag} {d : Nat} {E : XK} {ta tb : TE} {σ : L2.St} {H : Hp} {Q : VK} (h : ta σ H fun u H1 => tb σ H1 fun v H2 => spSame K d [u, v] H2 Q E) : tCall (spSame K d) [] E (tCons ta (tCons tb tNil)) σ H Q := h
theorem open_ret {te : TE} {D : Ends} {σ : L2.St} {H : Hp} (h : te σ H D.rt) : tRet te D σ H := h
end Hs
namespace Hs
open PySem PySem.Spec PyProof.Rows L2 Evl
section
variable {K : PySem.W.Frag} {C : Addr} {H : Hp}
theorem house_new {n : Nat} {h dx s0 p q : Addr} {H3 : Hp} (hh : H h = none) (hdx : H dx = none) (kp3 : ∀ b o, upd (upd H dx (.own h)) h (.ins C dx []) b = some o → b ≠ h → H3 b = some o) (hh3 : H3 h = some (.ins C dx [("state", .ref s0), ("past", .ref p), ("ahead", .ref q), ("trying", .bl false)])) (np : upd (upd H dx (.own h)) h (.ins C dx []) p = none) (nq : upd (upd H dx (.own h)) h (.ins C dx []) q = none) (npq : p ≠ q) (hp3 : H3 p = some (.lst [])) (hq3 : H3 q = some (.lst [])) (hF3 : FirstA K H3 s0) :
    Ex H H3 ∧ HsX K C n H3 h dx p q 0 Stt.new ∧ H h = none ∧ H p = none ∧ H q = none := by
  have old : ∀ {c : Addr} {o : HO}, H c = some o → upd (upd H dx (.own h)) h (.ins C dx []) c = some o := fun hc => by
    rw [upd_ne (ne_of_none hc hh), upd_ne (ne_of_none hc hdx)]
    exact hc
  refine ⟨fun c o hc => kp3 c o (old hc) (ne_of_none hc hh), HsX.made hh3 hp3 hq3 npq hF3, hh, ?_, ?_⟩
  · cases hz : H p with
    | none => rfl
    | some o =>
      rw [old hz] at np
      cases np
  · cases hz : H q with
    | none => rfl
    | some o =>
      rw [old hz] at nq
      cases nq
end
end Hs
namespace Hs
open PySem PySem.Spec PyProof.Rows L2 Evl LamX
/-! ### what stands while functions by a lambda are put on a list -/
structure S12 (K : PySem.W.Frag) (C : Addr) (T : List (Addr × Str)) (h dx p q al : Addr) (m : Nat) (S : Stt) (fs : List (Addr × LF)) (H : Hp) : Prop where
  tabs : LamX.Tabs T H
  hs : HsX K C 20 H h dx p q m S
  l : H al = some (.lst (fs.map fun x => V.ref x.1))
  f : ∀ x ∈ fs, H x.1 = some (LamO x.1 x.2) ∧ H x.2.c = some (CodeO x.2.c x.2.qual)
  n : al ≠ h ∧ al ≠ p ∧ al ≠ q
section
variable {K : PySem.W.Frag} {C : Addr} {T : List (Addr × Str)} {h dx p q al : Addr} {m : Nat} {S : Stt} {fs : List (Addr × LF)} {H H' : Hp}
theorem S12.ext (s : S12 K C T h dx p q al m S fs H) (e : Ex H H') : S12 K C T h dx p q al m S fs H' := ⟨s.tabs.ext e, s.hs.ext e, e _ _ s.l, fun x hx => ⟨e _ _ (s.f x hx).1, e _ _ (s.f x hx).2⟩, s.n⟩
/-- one function more -/
theorem S12.step {F : LF} {f : Addr} (s : S12 K C T h dx p q al m S fs H) (e : ExtN H H') (t : Tabs T H') (hf : H' f = some (LamO f F)) (hc : H' F.c = some (CodeO F.c F.qual)) : S12 K C T h dx p q al m S (fs ++ [(f, F)]) (upd H' al (.lst (fs.map (fun x => V.ref x.1) ++ [.ref f]))) := by
  have l' := e _ _ s.l (fun _ z => by cases z)
  have kp := (Kp.ofN e).trans (Kp.upd (o := .lst (fs.map (fun x => V.ref x.1) ++ [.ref f])) l')
  have hs' := s.hs.extN e
  have lamL : ∀ {f : Addr} {F : LF} (ys : List V), LamO f F ≠ .lst ys := fun ys z => by
    unfold LamO at z
    cases z
  have codL : ∀ {c : Addr} {q : Str} (ys : List V), CodeO c q ≠ .lst ys := fun ys z => by
    unfold LamX.CodeO at z
    cases z
  have up : ∀ {c : Addr} {u : HO}, H' c = some u → (∀ ys, u ≠ .lst ys) → upd H' al (.lst (fs.map (fun x => V.ref x.1) ++ [.ref f])) c = some u := fun h1 h2 => by
    rw [upd_ne (ne_of h1 l' (h2 _))]
    exact h1
  refine ⟨tabs_upd t l', hs'.keep (Kp.upd l') (fun o z => ?_) (fun o z => ?_) (fun o z => ?_) (Nat.le_refl _), by rw [upd_same, List.map_append] <;> rfl, fun x hx => ?_, s.n⟩
  · rw [upd_ne (Ne.symm s.n.1)]
    exact z
  · rw [upd_ne (Ne.symm s.n.2.1)]
    exact z
  · rw [upd_ne (Ne.symm s.n.2.2)]
    exact z
  · rcases List.mem_append.mp hx with hx | hx
    · obtain ⟨g1, g2⟩ := s.f x hx
      exact ⟨up (e _ _ g1 lamO_ne) lamL, up (e _ _ g2 codeO_ne) codL⟩
    · rw [List.mem_singleton.mp hx]
      exact ⟨up hf lamL, up hc codL⟩
end
theorem rows_words12 {K : PySem.W.Frag} {H : Hp} {r : Addr} {rs : List Addr} {ws : List Str} (hr : H r = some (.lst (rs.map V.ref))) (hl : rs.length = (ws.map fun w => [V.str w]).length) (t : TupsO H rs (ws.map fun w => [V.str w])) : RowsD K H r (ws.map fun w => .tuple [.str w]) := by
  refine ⟨_, hr, DtAll.of (by rw [List.length_map, List.length_map, hl, List.length_map]) fun i v d hv hd => ?_⟩
  rw [List.getElem?_map] at hv hd
  obtain ⟨p, hp, rfl⟩ := Option.map_eq_some_iff.mp hv
  obtain ⟨w, hw, rfl⟩ := Option.map_eq_some_iff.mp hd
  exact .tup (st_of (t i p [.str w] hp (by rw [List.getElem?_map, hw] <;> rfl))) (.cons (.str _) .nil)
end Hs
namespace Hs
open PySem PySem.Spec PyProof.Rows L2 Evl
/-! ### values read as data -/
def EvD (K : PySem.W.Frag) (te : TE) (σ : L2.St) (H : Hp) (d : PyData) : Prop := ∀ H1, Ex H H1 → ∀ Q : VK, (∀ v H2, Ex H1 H2 → Dt K H2 v d → Q v H2) → te σ H1 Q
def EvAD (K : PySem.W.Frag) (ta : TA) (σ : L2.St) (H : Hp) (ds : List PyData) : Prop := ∀ H1, Ex H H1 → ∀ Q : List V → Hp → Prop, (∀ vs H2, Ex H1 H2 → DtAll K H2 vs ds → Q vs H2) → ta σ H1 Q
section
variable {K : PySem.W.Frag} {H H' : Hp} {σ : L2.St} {te tx ty : TE} {ta : TA}
theorem ed_of {v : V} {d : PyData} (h : Ev te σ H v) (hd : Dt K H v d) : EvD K te σ H d := fun H1 e Q q => h H1 e _ fun H2 e2 => q v H2 e2 (Dt.kp (Kp.of (e.trans e2)) _ _ hd)
theorem ead_nil : EvAD K tNil σ H [] := fun H1 e Q q => q [] H1 (Ex.refl _) .nil
theorem ead_cons {d : PyData} {ds : List PyData} (h : EvD K te σ H d) (hr : EvAD K ta σ H ds) : EvAD K (tCons te ta) σ H (d :: ds) := fun H1 e Q q =>
  h H1 e _ fun v H2 e2 hv => hr H2 (e.trans e2) _ fun vs H3 e3 hvs => q (v :: vs) H3 (e2.trans e3) (.cons (Dt.kp (Kp.of e3) _ _ hv) hvs)
theorem ed_tup {ds : List PyData} (h : EvAD K ta σ H ds) (hl : ds.length ≤ 100000) : EvD K (tTup ta) σ H (.tuple ds) := fun H1 e Q q =>
  h H1 e _ fun vs H2 e2 hvs => ⟨sz_of (by rw [hvs.len]; exact hl), fun p hp => q _ _ (e2.trans (Ex.new hp)) (.tup (st_of upd_same) (DtAll.kp (Kp.of (Ex.new hp)) _ _ hvs))⟩
theorem ed_s {x : Str} : EvD K (tC (.str x)) σ H (.str x) := ed_of ev_c (.str x)
end
/-- a new list of rows -/
def EvLD (K : PySem.W.Frag) (te : TE) (σ : L2.St) (H : Hp) (ds : List PyData) : Prop := ∀ H1, Ex H H1 → ∀ Q : VK, (∀ a H2, H1 a = none → Ex H1 H2 → RowsD K H2 a ds → Q (.ref a) H2) → te σ H1 Q
theorem eld_lst {K : PySem.W.Frag} {ta : TA} {σ : L2.St} {H : Hp} {ds : List PyData} (h : EvAD K ta σ H ds) (hl : ds.length ≤ 100000) : EvLD K (tLst ta) σ H ds := fun H1 e Q q =>
  h H1 e _ fun vs H2 e2 hvs => ⟨sz_of (by rw [hvs.len]; exact hl), fun p hp => q p _ (fresh_back e2 hp) (e2.trans (Ex.new hp)) ⟨vs, upd_same, DtAll.kp (Kp.of (Ex.new hp)) _ _ hvs⟩⟩
end Hs
namespace Hs
open PySem PySem.Spec PyProof.Rows L2 Evl
/-! ### len(o), bool(o) by an own __len__ -/
section
variable {prog : Program} {w : World} {A : Around} {E : Value → Shared → Prop} {s : Shared} {K : PySem.W.Frag} {x C f : Addr} {ox : Obj} {odd : Option Obj}
theorem own_len {Q : Value → Shared → Prop} (X : K.In s.heap) (I : PySem.W.InstAt s.heap x ox C odd) (hs : PySem.W.findIn K (.ref C) "__len__" = some (some (.ref f))) (hf : PySem.W.isFn K (.ref f) = true)
    (h : wpAny (model prog w) A.in1 (call (.ref f) [.ref x]) (fun r s₁ => ∃ (n : Nat) (u : Tok), r = Value.int n u ∧ n < 2 ^ 60 ∧ Q (.int n s₁.toks) { s₁ with toks := s₁.toks + 1 }) E s) : wpAny (model prog w) A (call (.builtin "len") [.ref x]) Q E s := by
  refine Calls.call_function_entry kind_len plain_len entry_len (args_len1 _) ?_
  unfold Builtin.«len»
  refine wpAny_bind (m := oneArg "len" _) (wpAny_pure ?_)
  refine wpAny_bind (m := callSpecial? (.ref x) (PySem.Str.ofString "__len__")) (PySem.W.special_fn X I hs (beq_iff_eq.mp hf) (wpAny_mono h (fun r s' hr => ?_) fun _ _ y => y))
  obtain ⟨n, u, rfl, hn, hq⟩ := hr
  refine wpAny_bind (wpAny_holding (wpAny_pure ?_))
  refine wpAny_bind (wpAny_letGo ?_)
  show wpAny _ _ (if ((n : Nat) : Int) < 0 then _ else _) _ _ _
  rw [if_neg (by omega)]
  show wpAny _ _ (if ((n : Nat) : Int) ≥ 2 ^ 63 then _ else _) _ _ _
  rw [if_neg (by omega)]
  exact wpAny_bind (wpAny_mkInt (wpAny_pure ⟨_, rfl, hq⟩))
end
end Hs
namespace Hs
open PySem PySem.Spec PyProof.Rows L2 Evl
section
variable {prog : Program} {w : World} {A : Around} {E : Value → Shared → Prop} {s : Shared} {K : PySem.W.Frag} {x C f : Addr} {ox : Obj} {odd : Option Obj}
theorem no_special {name : Str} {Q : Option Value → Shared → Prop} (X : K.In s.heap) (I : PySem.W.InstAt s.heap x ox C odd) (hf : PySem.W.findIn K (.ref C) name = some none) (h : Q none s) : wpAny (model prog w) A (callSpecial? (.ref x) name []) Q E s := by
  unfold callSpecial? specialOf
  exact wpAny_bind (wpAny_bind (I.type.here ((PySem.W.looks_findIn X hf).here (wpAny_pure h))))
theorem own_truthy {Q : Bool → Shared → Prop} (X : K.In s.heap) (I : PySem.W.InstAt s.heap x ox C odd) (hb : PySem.W.findIn K (.ref C) "__bool__" = some none) (hs : PySem.W.findIn K (.ref C) "__len__" = some (some (.ref f))) (hf : PySem.W.isFn K (.ref f) = true)
    (h : wpAny (model prog w) A.in1 (call (.ref f) [.ref x]) (fun r s₁ => ∃ (n : Nat) (u : Tok), r = Value.int n u ∧ n < 2 ^ 60 ∧ ∀ tk, Q (((n : Int) != 0)) { s₁ with toks := tk }) E s) : wpAny (model prog w) A (truthy (.ref x)) Q E s := by
  have sp : ∀ {Q' : Option Value → Shared → Prop}, Q' (some (.ref f)) s → wpAny (model prog w) A (specialOf (.ref x) "__len__") Q' E s := fun q => by
    unfold specialOf
    exact wpAny_bind (I.type.here ((PySem.W.looks_findIn X hs).here q))
  have key : wpAny (model prog w) A (runValue (.builtin "len" ⟨[.ref x], []⟩)) (fun r s' => ∃ (n : Nat) (t : Tok), r = .int n t ∧ Q ((n : Int) != 0) s') E s := by
    refine wpAny_runValue (codeAny_builtin entry_len ?_)
    rw [Around.under_plainId plain_len _]
    unfold Builtin.«len»
    refine wpAny_bind (m := oneArg "len" _) (wpAny_pure ?_)
    refine wpAny_bind (m := callSpecial? (.ref x) (PySem.Str.ofString "__len__")) (PySem.W.special_fn X I hs (beq_iff_eq.mp hf) (wpAny_mono h (fun r s' hr => ?_) fun _ _ y => y))
    obtain ⟨n, u, rfl, hn, hq⟩ := hr
    refine wpAny_bind (wpAny_holding (wpAny_pure ?_))
    refine wpAny_bind (wpAny_letGo ?_)
    show wpAny _ _ (if ((n : Nat) : Int) < 0 then _ else _) _ _ _
    rw [if_neg (by omega)]
    show wpAny _ _ (if ((n : Nat) : Int) ≥ 2 ^ 63 then _ else _) _ _ _
    rw [if_neg (by omega)]
    exact wpAny_bind (wpAny_mkInt (wpAny_pure ⟨n, _, rfl, hq _⟩))
  unfold truthy
  first
    | refine wpAny_bind (no_special (name := Str.ofString "__bool__") X I hb ?_)
    | refine wpAny_bind (wpAny_pure (wpAny_bind (no_special (name := Str.ofString "__bool__") X I hb ?_)))
  first
    | refine wpAny_bind (sp ?_)
    | refine wpAny_bind (wpAny_pure (wpAny_bind (sp ?_)))
  first
    | exact wpAny_bind (wpAny_mono key (fun r s' h' => by obtain ⟨n, t, rfl, hq⟩ := h'; exact wpAny_pure hq) fun _ _ e => e)
    | exact wpAny_bind (wpAny_pure (wpAny_bind (wpAny_mono key (fun r s' h' => by obtain ⟨n, t, rfl, hq⟩ := h'; exact wpAny_pure hq) fun _ _ e => e)))
theorem own_bool {Q : Value → Shared → Prop} (X : K.In s.heap) (I : PySem.W.InstAt s.heap x ox C odd) (hb : PySem.W.findIn K (.ref C) "__bool__" = some none) (hs : PySem.W.findIn K (.ref C) "__len__" = some (some (.ref f))) (hf : PySem.W.isFn K (.ref f) = true)
    (h : codeAny (model prog w) A.in1.in1.in1 (.call (.ref f) ⟨[.ref x], []⟩) (fun r s₁ => match r with | .ok (.ret v) => ∃ (n : Nat) (u : Tok), v = Value.int n u ∧ n < 2 ^ 60 ∧ ∀ tk, Q (.bool ((n : Int) != 0)) { s₁ with toks := tk } | .ok _ => False | .error e => E e s₁) s) : wpAny (model prog w) A (call (.type "bool") [.ref x]) Q E s := by
  refine callType_codes (T := "bool") (Bi := Builtin.«object.__init__») (Q₁ := fun r s₁ => ∃ b, r = Value.bool b ∧ Q r s₁) PySem.F.called_bool (PySem.F.typeCall_bool_1 _) PySem.F.entry_object_init ?_ ?_
  · refine codeAny_of_tree ?_
    show wpAny _ A.in1.in1 (do checkBuiltinCall "bool.__new__" ⟨[.type "bool", .ref x], []⟩; again (.builtin "bool.__new__" ⟨[.type "bool", .ref x], []⟩)) _ _ s
    refine wpAny_bind (wpAny_of_eq (PySem.F.newCall_bool_1 _) (wpAny_pure ⟨plainId_quiet (by decide +kernel) _, codeAny_builtin PySem.F.entry_bool_new ?_⟩))
    rw [Around.under_plainId (by decide +kernel) _]
    have f1 := F.conv_sub_bool
    have tr : ∀ {A' : Around} {E' : Value → Shared → Prop} {R : Bool → Shared → Prop}, wpAny (model prog w) A'.in1 (call (.ref f) [.ref x]) (fun r s₁ => ∃ (n : Nat) (u : Tok), r = Value.int n u ∧ n < 2 ^ 60 ∧ ∀ tk, R (((n : Int) != 0)) { s₁ with toks := tk }) E' s → wpAny (model prog w) A' (truthy (.ref x)) R E' s := fun z => own_truthy X I hb hs hf z
    unfold Builtin.«bool.__new__»
    repeat (any_goals (first | assumption | (with_reducible refine tr ?_) | wp_step))
    refine codeAny_mono h fun r s' hr => ?_
    match r, hr with
    | .error e, hr => exact hr
    | .ok .next, hr => exact hr.elim
    | .ok .brk, hr => exact hr.elim
    | .ok .cont, hr => exact hr.elim
    | .ok (.ret v), hr =>
      obtain ⟨n, u, rfl, hn, hq⟩ := hr
      exact ⟨n, u, rfl, hn, fun tk => wpAny_pure ⟨_, rfl, hq tk⟩⟩
  · rintro obj s₁ ⟨b, rfl, hq⟩
    exact ⟨PySem.typeIs_bool _ _, PySem.F.args_object_init_2 _ _, object_init_meets PySem.F.called_bool.init.lookup PySem.F.called_bool.made (by decide) prog w A.in1 _ s₁ ⟨PySem.typeIs_bool _ _, rfl, hq⟩⟩
end
end Hs
namespace Hs
open PySem PySem.Spec PyProof.Rows L2 Evl
section
variable {X : Cx}
/-- an instance of the class at C, its __len__ at g keeps sp -/
structure LenC (X : Cx) (CX : CXT) (n : Nat) (C : Addr) (sp : Sp) : Prop where
  ex : ∃ (g : Addr) (fd : FuncData) (ps : List Str), PySem.W.findIn X.K (.ref C) "__len__" = some (some (.ref g)) ∧ PySem.W.isFn X.K (.ref g) = true ∧ FnOk X.prog X.w X.K X.mg X.base CX n g fd ps sp ∧ Binds X.K fd ps []
theorem len_runs {CX : CXT} {n : Nat} {g : Addr} {fd : FuncData} {ps : List Str} {sp : Sp} {A : Around} {E : XK} {pins : List (Addr × Obj)} {σ : L2.St} {H : Hp} {s : Shared} {a : Addr} {Q : VK} (F : FnOk X.prog X.w X.K X.mg X.base CX n g fd ps sp) (hb : Binds X.K fd ps []) (hr : Room n A) (hx : Passes CX X E) (I : Inv X pins σ H s)
    (e0 : Env0 X.prog X.w X.K X.mg X.base A X.stack s H) (h : sp [.ref a] H Q E) :
    codeAny (model X.prog X.w) A (.call (.ref g) ⟨[.ref a], []⟩) (fun r s' => match r with | .ok (.ret v) => EP X pins σ Q v s' | .ok _ => False | .error e => X.xe e s') s := by
  have hl := F.len _ _ _ _ h
  have r2 : Vals [V.ref a] [Value.ref a] := .cons rfl .nil
  refine codeAny_mono (F.run A X.stack s H ⟨[.ref a], []⟩ [.ref a] [.ref a] _ E hr e0 (by
    have := hb s [.ref a] I.kIn (by simpa using hl)
    simpa using this) r2 h) fun r s' hq => ?_
  match r, hq with
  | .error e, hq => exact hx pins σ H s e s' I hq
  | .ok (.ret w), hq => exact I.after hq
  | .ok .next, hq => exact False.elim hq
  | .ok .brk, hq => exact False.elim hq
  | .ok .cont, hq => exact False.elim hq
def rLenO (C : Addr) (sp : Sp) (E : XK) : List V → Hp → VK → Prop := fun xs H Q => ∃ (a dx : Addr) (fs : List (Str × V)), xs = [V.ref a] ∧ H a = some (.ins C dx fs) ∧ sp [.ref a] H (fun z H' => ∃ n : Nat, z = .int n ∧ n < 2 ^ 60 ∧ Q (.int n) H') E
theorem cr_lenO {CX : CXT} {n : Nat} {C : Addr} {sp : Sp} {E : XK} (L : LenC X CX n C sp) (hr : Room (n + 3) X.A) (hx : Passes CX X E) : CallR X (.builtin "len") (rLenO C sp E) := by
  intro pins s σ H xs us Q I r h
  obtain ⟨g, fd, ps, hs, hf, F, hb⟩ := L.ex
  obtain ⟨a, dx, fs, rfl, ha, h⟩ := h
  rw [Vals.ref1 r]
  obtain ⟨mA, J, _⟩ := ins_get I.hok ha
  obtain ⟨od, J, _⟩ := J.look
  have hr1 : Room n X.A.in1 := (show Room (n + 1) X.A from hr.mono (by omega)).in1
  refine own_len I.kIn J hs hf (wpAny_mono (wpAny_call (len_runs F hb hr1 hx I I.env0.in1 h)) (fun v s' z => ?_) fun _ _ x => x)
  obtain ⟨z', H', I', rz, m, ei, hm, qz⟩ := z
  subst ei
  obtain ⟨t, rfl⟩ := (show ∃ t, v = Value.int m t from rz)
  exact ⟨m, t, rfl, hm, .int m, H', I'.tok _, ⟨_, rfl⟩, qz⟩
def rBoolO (C : Addr) (sp : Sp) (E : XK) : List V → Hp → VK → Prop := fun xs H Q => ∃ (a dx : Addr) (fs : List (Str × V)), xs = [V.ref a] ∧ H a = some (.ins C dx fs) ∧ sp [.ref a] H (fun z H' => ∃ n : Nat, z = .int n ∧ n < 2 ^ 60 ∧ Q (.bl (decide (n ≠ 0))) H') E
theorem cr_boolO {CX : CXT} {n : Nat} {C : Addr} {sp : Sp} {E : XK} (L : LenC X CX n C sp) (hbo : PySem.W.findIn X.K (.ref C) "__bool__" = some none) (hr : Room (n + 3) X.A) (hx : Passes CX X E) : CallR X (.type "bool") (rBoolO C sp E) := by
  intro pins s σ H xs us Q I r h
  obtain ⟨g, fd, ps, hs, hf, F, hb⟩ := L.ex
  obtain ⟨a, dx, fs, rfl, ha, h⟩ := h
  rw [Vals.ref1 r]
  obtain ⟨mA, J, _⟩ := ins_get I.hok ha
  obtain ⟨od, J, _⟩ := J.look
  have hr1 : Room n X.A.in1.in1.in1 := ((show Room (n + 3) X.A from hr).in1 : Room (n + 2) X.A.in1).in1.in1
  refine own_bool I.kIn J hbo hs hf (codeAny_mono (len_runs F hb hr1 hx I I.env0.in1.in1.in1 h) fun r s' z => ?_)
  match r, z with
  | .error e, z => exact z
  | .ok .next, z => exact z.elim
  | .ok .brk, z => exact z.elim
  | .ok .cont, z => exact z.elim
  | .ok (.ret v), z =>
    obtain ⟨z', H', I', rz, m, ei, hm, qz⟩ := z
    subst ei
    obtain ⟨t, rfl⟩ := (show ∃ t, v = Value.int m t from rz)
    have eb : ((m : Int) != 0) = decide (m ≠ 0) := by
      by_cases e : m = 0
      · subst e
        rfl
      · have : (m : Int) ≠ 0 := by omega
        simp [e, this]
    exact ⟨m, t, rfl, hm, fun tk => ⟨.bl (decide (m ≠ 0)), H', I'.tok _, by rw [eb] <;> rfl, qz⟩⟩
end
end Hs
namespace Hs
open PySem PySem.Spec PyProof.Rows L2 Evl
theorem wmap (a b c d e f g : Addr) : ∃ W : Str → Addr, W "badplace" = a ∧ W "badlight" = b ∧ W "badmenu" = c ∧ W "badblock" = d ∧ W "badpiece" = e ∧ W "badsift" = f ∧ W "full" = g := by
  refine ⟨fun wd => if wd = "badplace" then a else if wd = "badlight" then b else if wd = "badmenu" then c else if wd = "badblock" then d else if wd = "badpiece" then e else if wd = "badsift" then f else g, if_pos rfl, ?_, ?_, ?_, ?_, ?_, ?_⟩
  · exact (if_neg (by decide +kernel)).trans (if_pos rfl)
  · exact (if_neg (by decide +kernel)).trans ((if_neg (by decide +kernel)).trans (if_pos rfl))
  · exact (if_neg (by decide +kernel)).trans ((if_neg (by decide +kernel)).trans ((if_neg (by decide +kernel)).trans (if_pos rfl)))
  · exact (if_neg (by decide +kernel)).trans ((if_neg (by decide +kernel)).trans ((if_neg (by decide +kernel)).trans ((if_neg (by decide +kernel)).trans (if_pos rfl))))
  · exact (if_neg (by decide +kernel)).trans ((if_neg (by decide +kernel)).trans ((if_neg (by decide +kernel)).trans ((if_neg (by decide +kernel)).trans ((if_neg (by decide +kernel)).trans (if_pos rfl)))))
  · exact (if_neg (by decide +kernel)).trans ((if_neg (by decide +kernel)).trans ((if_neg (by decide +kernel)).trans ((if_neg (by decide +kernel)).trans ((if_neg (by decide +kernel)).trans (if_neg (by decide +kernel))))))
end Hs
namespace Hs
open PySem PySem.Spec PyProof.Rows L2 Evl LamX NdefX
section
variable {P : Program} {w : World} {K : PySem.W.Frag} {mg : Str → Option Value} {base : Heap} {C c pt cSo : Addr} {cN cL cK cB cS cM cC : Addr} {T : List (Addr × Str)} {W : Str → Addr}
structure W42 (K : PySem.W.Frag) (C : Addr) (T : List (Addr × Str)) (b l g : Addr) (ns : List Int) (gw gx gy : Int) (h dx p q : Addr) (N k : Nat) (m : Addr) (M : Md) (H : Hp) : Prop where
  t : Tabs T H
  b : BagAt H b l ns N
  g : H g = some (.tup [.int gw, .int gx, .int gy])
  hs : HsX K C 20 H h dx p q k (stOf M)
  md : MdA K 20 H m M
  iv : Inv42 M
theorem W42.ext {b l g : Addr} {ns : List Int} {gw gx gy : Int} {h dx p q : Addr} {N N' k : Nat} {m : Addr} {M : Md} {H H' : Hp} (w : W42 K C T b l g ns gw gx gy h dx p q N k m M H) (e : Ex H H') (hN : N ≤ N') : W42 K C T b l g ns gw gx gy h dx p q N' k m M H' := ⟨w.t.ext e, w.b.ext e hN, e _ _ w.g, w.hs.ext e, w.md.ext e, w.iv⟩
theorem W42.but {b l g : Addr} {ns : List Int} {gw gx gy : Int} {h dx p q : Addr} {N N' k : Nat} {m : Addr} {M : Md} {H H' : Hp} (w : W42 K C T b l g ns gw gx gy h dx p q N k m M H) (nb : b ≠ h ∧ b ≠ p ∧ b ≠ q) (B : BagAt H' b l ns N') (e : But H H' b) : W42 K C T b l g ns gw gx gy h dx p q N' k m M H' := by
  obtain ⟨xs, hb⟩ := bag_lst w.b
  have kp := bag_kp w.b e
  exact ⟨tabs_but w.t hb e, B, kp.tup w.g, w.hs.keep kp (fun o z => e _ _ z (Ne.symm nb.1)) (fun o z => e _ _ z (Ne.symm nb.2.1)) (fun o z => e _ _ z (Ne.symm nb.2.2)) (Nat.le_refl _), w.md.keep kp, w.iv⟩
theorem open_tup2 {ta tb : TE} {σ : L2.St} {H : Hp} {Q : VK} (h : ta σ H fun x H1 => tb σ H1 fun y H2 => [x, y].length ≤ sizeLine ∧ ∀ p, H2 p = none → Q (.ref p) (upd H2 p (.tup [x, y]))) : tTup (tCons ta (tCons tb tNil)) σ H Q := h
theorem bad_far (S : Stt) : badU S (.uns [(1000001, 0, 1, 1, 1), (0, 0, 1, -1, 1)]) = some ("badplace" : Str) := by
  have z : badCs [(1000001, 0, 1, 1, 1), (0, 0, 1, -1, 1)] = some ("badplace" : Str) := by decide +kernel
  rw [badU_uns, if_neg (by decide), z]
theorem bad_dim (S : Stt) : badU S (.uns [(0, 0, 1, -1, 1), (1000001, 0, 1, 1, 1)]) = some ("badlight" : Str) := by
  have z : badCs [(0, 0, 1, -1, 1), (1000001, 0, 1, 1, 1)] = some ("badlight" : Str) := by decide +kernel
  rw [badU_uns, if_neg (by decide), z]
theorem next_go {D : Ends} {σ : L2.St} {H : Hp} (h : D.nx σ H) : tNext D σ H := h
theorem tif_P {X : V → Hp → Prop} {b : Bool} {t : TT} {ta tb : TE} {σ : L2.St} {H : Hp} {Q : VK} (h : EvT t σ H b) (k : ∀ v H1, X v H1 → Q v H1) (h1 : b = true → ∀ H1, Ex H H1 → (∀ v H2, X v H2 → Q v H2) → ta σ H1 Q) (h2 : b = false → ∀ H1, Ex H H1 → (∀ v H2, X v H2 → Q v H2) → tb σ H1 Q) : tIf t ta tb σ H Q := h H (Ex.refl _) _ fun H1 e1 => by
  cases b with
  | true => exact ite_T rfl (h1 rfl H1 e1 k)
  | false => exact ite_F rfl (h2 rfl H1 e1 k)
abbrev sLaw : Stmt := top 133
theorem scLaw : FnScope ["_law_script", "_law_bag_here", "_law_grid_here", "_law_house", "_law_m", "_law_step", "_law_deed", "_law_bad", "_law_far_here", "_law_dim", "_law_acts", "_law_many"] ["_law_script"] (defScope sLaw) := ⟨rfl, rfl, rfl, by decide +kernel, rfl, by decide +kernel, by decide +kernel⟩
theorem law_body {A : Around} {outer : List Env} {s : Shared} {H : Hp} {E : XK} {f : Addr} (hr : Room 12 (A.deeper (envOfC "law" (defScope sLaw) s.heap.objs.size f (.ref c))))
    (O__law_bag : Own P w K mg base 1 "_law_bag" ["_law_script"] (spBag K)) (O__law_pull : Own P w K mg base 1 "_law_pull" ["_law_bag_here", "_law_many"] spPull) (O__law_grid : Own P w K mg base 2 "_law_grid" ["_law_bag_here"] spGrid) (O__law_new : Own P w K mg base 1 "_law_new" [] spNewM) (O__law_put_deed : Own P w K mg base 5 "_law_put_deed" ["_law_bag_here", "_law_grid_here", "_law_m"] (spPutDeed K)) (O__law_due_lamp : Own P w K mg base 3 "_law_due_lamp" ["_law_m", "_law_deed"] (spDueL K)) (O__law_due_thing : Own P w K mg base 2 "_law_due_thing" ["_law_m", "_law_deed"] (spDueT K)) (O__law_tells : Own P w K mg base 11 "_law_tells" ["_law_house", "_law_m", "_law_deed", "_law_bad"] (spTells K C T)) (O__law_after_put : Own P w K mg base 3 "_law_after_put" ["_law_m", "_law_deed"] (spAfterU K 20)) (O__law_things_so : Own P w K mg base 7 "_law_things_so" ["_law_house", "_law_m"] (spThingsSo K C)) (O__law_same : Own P w K mg base 6 "_law_same" ["_law_got", "_law_due"] (spSame K 6))
    (M_House : MkX P w K mg base 3 "House" C ["self"] (spInit K C)) (MU : ∀ base', (∀ b o, base.get? b = some o → base'.get? b = some o) → MetX P w K mg base' 8 C "unsure" ["self", "choices"] [] (spUnsH K C W)) (MC : ∀ base', (∀ b o, base.get? b = some o → base'.get? b = some o) → MetX P w K mg base' 3 C "coming" ["self", "sort"] [] (spComingE K C cSo))
    (LH : ∃ (g : Addr) (fd : FuncData) (ps : List Str), PySem.W.findIn K (.ref C) "__len__" = some (some (.ref g)) ∧ PySem.W.isFn K (.ref g) = true ∧ FnOk P w K mg base CX0 1 g fd ps (spLenH K C) ∧ Binds K fd ps []) (nB : PySem.W.findIn K (.ref C) "__bool__" = some none)
    (O__law_tried : ∀ base', (∀ b o, base.get? b = some o → base'.get? b = some o) → Own P w K mg base' 10 "_law_tried" ["_law_act"] (spTried P w K mg base' 9 lamQ cN cL cK cB cS cM cC)) (O__law_all_tried : ∀ base', (∀ b o, base.get? b = some o → base'.get? b = some o) → Own P w K mg base' 11 "_law_all_tried" ["_law_acts"] (spAll P w K mg base' 9 lamQ cN cL cK cB cS cM cC))
    (hW : ∀ wd ∈ wrds7, Word K (W wd) cN cL cK cB cS cM cC) (wSo : Word K cSo cN cL cK cB cS cM cC) (TB : TabB base mg c pt) (hmT : (pt, lamQ) ∈ T) (huT : ∀ p ∈ T, p.1 = pt → p.2 = lamQ) (g_range : mg "range" = none) (g_len : mg "len" = none) (g_bool : mg "bool" = none) {vs : List V} {Q : VK} (h : spLaw K T vs H Q E) :
    ∃ t, PSs (cxOf CX0 P w K mg base ["_law_script", "_law_bag_here", "_law_grid_here", "_law_house", "_law_m", "_law_step", "_law_deed", "_law_bad", "_law_far_here", "_law_dim", "_law_acts", "_law_many"] "law" (defScope sLaw) f (.ref c) A outer s H E) (defBody sLaw) t ∧ t { nx := fun _ H' => Q .non H', rt := Q } (L2.start ["_law_script", "_law_bag_here", "_law_grid_here", "_law_house", "_law_m", "_law_step", "_law_deed", "_law_bad", "_law_far_here", "_law_dim", "_law_acts", "_law_many"] vs) H := by
  have nd := scLaw.nd
  refine ⟨_, PSs.nox (pss_cons (ps_set (i := 1) nd rfl (.inl rfl) (Hs.pe_own O__law_bag hr (by first | decide | omega) (by rfl) (pa_cons (pv 0) pa_nil)))
  (pss_cons (ps_set (i := 2) nd rfl (.inl rfl) (Hs.pe_own O__law_grid hr (by first | decide | omega) (by rfl) (pa_cons (pv 1) pa_nil)))
  (pss_cons (ps_asg (pe_tup (pa_cons (Hs.pe_mkX M_House hr (by decide) (by rfl)) (pa_cons (Hs.pe_own0 O__law_new hr (by first | decide | omega) (by rfl)) pa_nil))) (pg_tup rfl (pgs_cons (pg_name (i := 3) nd rfl (.inr rfl)) (pgs_cons (pg_name (i := 4) nd rfl (.inl rfl)) pgs_nil))))
  (pss_cons (ps_for PassesOwn.never rfl (pi_range1 (by rfl) g_range (pa_cons (pe_op op_add pe_int (Hs.pe_own O__law_pull hr (by first | decide | omega) (by rfl) (pa_cons (pv 1) (pa_cons pe_int pa_nil)))) pa_nil)) (pg_name (i := 5) nd rfl (.inl rfl)) (pss_cons (ps_set (i := 6) nd rfl (.inl rfl) (Hs.pe_own O__law_put_deed hr (by first | decide | omega) (by rfl) (pa_cons (pv 1) (pa_cons (pv 2) (pa_cons (pv 4) pa_nil)))))
  (pss_cons (ps_set (i := 7) nd rfl (.inl rfl) (pe_ifExp (pt_cmpR op_in_seq (pe_ix (r := rIxT K) ix_tup (pv 6) pe_int (fun _ _ => rfl)) (pe_tup (pa_cons pe_str (pa_cons pe_str pa_nil))) (by rfl)) (Hs.pe_own O__law_due_lamp hr (by first | decide | omega) (by rfl) (pa_cons (pv 4) (pa_cons (pv 6) pa_nil))) (Hs.pe_own O__law_due_thing hr (by first | decide | omega) (by rfl) (pa_cons (pv 4) (pa_cons (pv 6) pa_nil)))))
  (pss_cons (ps_if (pt_not (pt_val (Hs.pe_own O__law_tells hr (by first | decide | omega) (by rfl) (pa_cons (pv 3) (pa_cons (pv 4) (pa_cons (pv 6) (pa_cons (pv 7) pa_nil))))))) (pss_one (ps_ret pe_bl)) pss_nil)
  (pss_cons (ps_set (i := 4) nd rfl (.inl rfl) (pe_ifExp (pt_cmpR op_notN (pv 7) pe_non (nomark _)) (pv 4) (Hs.pe_own O__law_after_put hr (by first | decide | omega) (by rfl) (pa_cons (pv 4) (pa_cons (pv 6) pa_nil)))))
  (pss_one (ps_if (pt_not (pt_val (Hs.pe_own O__law_things_so hr (by first | decide | omega) (by rfl) (pa_cons (pv 3) (pa_cons (pv 4) pa_nil))))) (pss_one (ps_ret pe_bl)) pss_nil)))))))
  (pss_cons (ps_asg (pe_tup (pa_cons (pe_tup (pa_cons (pe_op op_add (pe_op op_pow pe_int pe_int) pe_int) (pa_cons pe_int (pa_cons pe_int (pa_cons pe_int (pa_cons pe_int pa_nil)))))) (pa_cons (pe_tup (pa_cons pe_int (pa_cons pe_int (pa_cons pe_int (pa_cons (pe_un un_neg pe_int) (pa_cons pe_int pa_nil)))))) pa_nil))) (pg_tup rfl (pgs_cons (pg_name (i := 8) nd rfl (.inr rfl)) (pgs_cons (pg_name (i := 9) nd rfl (.inr rfl)) pgs_nil))))
  (pss_cons (ps_set (i := 10) nd rfl (.inl rfl) (pe_lst (pa_cons (Hs.pe_lam (T := T) TB rfl hmT huT rfl (Hs.free_by (sc := defScope sLaw) (by decide +kernel))) pa_nil)))
  (pss_cons (ps_expr (pe_bm PySem.F.plainAttrs_list PySem.F.slot_list_append PySem.F.type_list_append mt_append (pv 10) (pa_cons (Hs.pe_lam (T := T) TB rfl hmT huT rfl (Hs.free_by (sc := defScope sLaw) (by decide +kernel))) pa_nil)))
  (pss_cons (ps_if (pt_cmpR (op_neD hr.units) (Hs.pe_ownB (sp := fun base => spAll P w K mg base 9 lamQ cN cL cK cB cS cM cC) O__law_all_tried (fun _ => rfl) hr (by decide) (by rfl) (pa_cons (pv 10) pa_nil)) (pe_lst (pa_cons (pe_tup (pa_cons pe_str pa_nil)) (pa_cons (pe_tup (pa_cons pe_str pa_nil)) pa_nil))) (nomark _)) (pss_one (ps_ret pe_bl)) pss_nil)
  (pss_cons (ps_set (i := 11) nd rfl (.inl rfl) (pe_op op_add (pe_op op_add (pe_callB (r := rLenF) call_lenF (by rfl) g_len PySem.boot_len (pa_cons (pe_dget (Hs.un1 hr) (pv 4) pe_str (fun _ _ => rfl)) pa_nil)) (pe_callB (r := rLenF) call_lenF (by rfl) g_len PySem.boot_len (pa_cons (pe_dget (Hs.un1 hr) (pv 4) pe_str (fun _ _ => rfl)) pa_nil))) (pe_callB (r := rLenF) call_lenF (by rfl) g_len PySem.boot_len (pa_cons (pe_dget (Hs.un1 hr) (pv 4) pe_str (fun _ _ => rfl)) pa_nil))))
  (pss_cons (ps_if (pt_cmpR (op_neD hr.units) (Hs.pe_ownB (sp := fun base => spTried P w K mg base 9 lamQ cN cL cK cB cS cM cC) O__law_tried (fun _ => rfl) hr (by decide) (by rfl) (pa_cons (Hs.pe_lam (T := T) TB rfl hmT huT rfl (Hs.free_by (sc := defScope sLaw) (by decide +kernel))) pa_nil)) (pe_tup (pa_cons pe_str pa_nil)) (nomark _)) (pss_one (ps_ret pe_bl)) pss_nil)
  (pss_one (ps_ret (Hs.pe_own O__law_same hr (by first | decide | omega) (by rfl) (pa_cons (pe_lst (pa_cons (pe_callB (r := rLenO C (spLenH K C) E0) (cr_lenO (CX := CX0) (n := 1) (sp := spLenH K C) (E := E0) ⟨LH⟩ (hr.mono (by decide)) pass0) (by rfl) g_len PySem.boot_len (pa_cons (pv 3) pa_nil)) (pa_cons (pe_callTy (r := rBoolO C (spLenH K C) E0) (cr_boolO (CX := CX0) (n := 1) (sp := spLenH K C) (E := E0) ⟨LH⟩ nB (hr.mono (by decide)) pass0) (by rfl) g_bool (by decide +kernel) (pa_cons (pv 3) pa_nil)) pa_nil))) (pa_cons (pe_lst (pa_cons (pv 11) (pa_cons (pe_cmpR op_gt (pv 11) pe_int (nomark _)) pa_nil))) pa_nil))))))))))))))), ?_⟩
  obtain ⟨a, ns, rfl, hS, hl, hT, k⟩ := h
  refine ⟨_, rfl, a, ns, rfl, hS, hl, fun b l H1 nb nl B1 e1 => ?_⟩
  have T1 := hT.ext e1
  dsimp only [gName, List.set]
  refine ⟨_, rfl, b, l, ns, _, rfl, B1, by decide, fun g gw gx gy H2 G ng hg B2 b2 => ?_⟩
  dsimp only [gName, List.set]
  obtain ⟨xb1, hb1⟩ := bag_lst B1
  have T2 := tabs_but T1 hb1 b2
  obtain ⟨xb2, hb2⟩ := bag_lst B2
  refine fun h dx hh hdx ndx => ⟨h, dx, rfl, upd_same, fun s0 p q H3 kp3 hh3 np3 nq3 npq3 hp3 hq3 hF3 => ⟨rfl, ?_⟩⟩
  obtain ⟨e3, a3, nh, np, nq⟩ := house_new (n := 20) hh hdx kp3 hh3 np3 nq3 npq3 hp3 hq3 hF3
  refine ⟨rfl, fun T5 m0 H4 nm e4 h0 hc hR => ⟨sz_of (by simp), fun t0 ht0 => ⟨t0, _, rfl, st_of upd_same, rfl, _, _, rfl, _, _, rfl, rfl, ?_⟩⟩⟩
  have x5 := Ex.new (o := .tup [V.ref h, .ref m0]) ht0
  dsimp only [gName, List.set]
  have nbh : b ≠ h ∧ b ≠ p ∧ b ≠ q := ⟨ne_of_none hb2 nh, ne_of_none hb2 np, ne_of_none hb2 nq⟩
  have nlh : l ≠ h ∧ l ≠ p ∧ l ≠ q := ⟨ne_of_none B2.ls nh, ne_of_none B2.ls np, ne_of_none B2.ls nq⟩
  have e25 := (e3.trans e4).trans x5
  have W5 : W42 K C T b l g ns gw gx gy h dx p q 3 0 m0 Md.new (upd H4 t0 (.tup [V.ref h, .ref m0])) := ⟨T2.ext e25, B2.ext e25 (Nat.le_refl _), e25 _ _ hg, (a3.ext e4).ext x5, (MdA.new hR h0 hc).ext x5, inv_new⟩
  generalize upd H4 t0 (.tup [V.ref h, .ref m0]) = H5 at W5
  have nh2 : ∀ {d : Addr} {H' : Hp}, H' d = none → (∃ o, H' h = some o) → d ≠ h := fun n o z => by
    obtain ⟨o, ho⟩ := o
    rw [← z, n] at ho
    cases ho
  refine q_forRD (M := fun n H' => (8 ≤ n ∧ n ≤ 30) ∧ W42 K C T b l g ns gw gx gy h dx p q 4 0 m0 Md.new H') (fun k' q' => ⟨_, rfl, b, l, ns, 3, 23, rfl, W5.b, by omega, by decide, by decide, fun v H6 v0 v1 B6 b6 => ⟨_, _, rfl, rfl, q' _ _ ⟨by omega, W5.but nbh B6 b6⟩⟩⟩) (fun n i σ' H' => n ≤ 30 ∧ ∃ (m : Addr) (M : Md) (v5 v6 v7 : Option V), σ' = [some (.ref a), some (.ref b), some (.ref g), some (.ref h), some (.ref m), v5, v6, v7, none, none, none, none] ∧ W42 K C T b l g ns gw gx gy h dx p q (10 + 101 * i) i m M H') (fun n H' z => ⟨by omega, z.1.2, m0, Md.new, none, none, none, rfl, z.2.ext (Ex.refl _) (by omega)⟩) (fun n i σ' H' hi z => ?_) (fun n σ' H' z => ?_)
  · obtain ⟨n30, m, M, v5, v6, v7, rfl, W⟩ := z
    dsimp only [List.set]
    have hll : M.lamps.length ≤ 12 := by
      have z := W.hs.ex
      obtain ⟨_, _, _, _, _, _, _, _, _, hst⟩ := z
      have z := hst.few.1
      rw [show (stOf M).fl.lamps.length = M.lamps.length from List.length_map ..] at z
      exact z
    have hlt : M.lamps.length < 30 ∧ M.posts.length < 30 ∧ M.panes.length < 30 := by
      have z := W.hs.ex
      obtain ⟨_, _, _, _, _, _, _, _, _, hst⟩ := z
      obtain ⟨w1, w2, w3, w4⟩ := hst.few
      have w2 : M.posts.length ≤ 12 := w2
      have w3 : M.panes.length ≤ 12 := w3
      omega
    have hok := W.iv.ok hll
    refine ⟨_, rfl, _, rfl, _, rfl, b, l, g, ns, 10 + 101 * i, gw, gx, gy, .ref m, rfl, W.b, by omega, W.g, G, fun d D H6 hfit nd hd B6 b6 => ?_⟩
    dsimp only [gName, List.set]
    have W6 := W.but nbh B6 b6
    obtain ⟨xs, hdv, at0⟩ := DeedU.At.word hd
    refine q_asgV (tif_P (X := fun v H7 => Ex H6 H7 ∧ BadV H7 v (badU (stOf M) D)) (b := inV (.str D.wd) [.str "lamp", .str "unsure"]) (et_test (ev_inU (xs := [.str "lamp", .str "unsure"]) (ev_ixt rfl hdv at0) (eu_tup (ea_cons ev_c (ea_cons ev_c ea_nil)) (by simp)) rfl rfl)) (fun vb H7 hv => ?_) (fun hb H7 e7 kk => ?_) (fun hb H7 e7 kk => ?_))
    · obtain ⟨e7, hv⟩ := hv
      have W7 := W6.ext (N' := 10 + 101 * (i + 1)) e7 (by omega)
      dsimp only [gName, List.set]
      refine ⟨_, rfl, _, rfl, _, rfl, _, rfl, h, m, d, dx, p, q, i, vb, M, D, rfl, W7.t, W7.hs, by omega, W7.md, DeedU.At.kp hd (Kp.of e7), hfit, hok, hv, fun H8 kp8 ls8 T8 hs8 => ⟨true, rfl, ?_⟩⟩
      refine ite_F rfl ?_
      have hd8 := DeedU.At.kp (DeedU.At.kp hd (Kp.of e7)) kp8
      have B8 : BagAt H8 b l ns (10 + 101 * (i + 1)) := by
        obtain ⟨⟨j, z, s, c, h1, h2, h3, h4, h5⟩, h6, h7⟩ := W7.b
        exact ⟨⟨j, z, s, c, ls8 _ _ h1 nbh.2.1 nbh.2.2, h2, h3, h4, h5⟩, ls8 _ _ h6 nlh.2.1 nlh.2.2, h7⟩
      refine next_go ?_
      dsimp only
      refine q_asgV (tif_P (X := fun v H9 => ∃ (m' : Addr) (M' : Md), v = .ref m' ∧ W42 K C T b l g ns gw gx gy h dx p q (10 + 101 * (i + 1)) (i + 1) m' M' H9) (b := decide (vb ≠ .non)) (et_is (et_test (fun H9 e9 Q' q' => ⟨_, rfl, rfl, q' H9 (Ex.refl H9)⟩)) (by rw [Bool.eq_iff_iff]; simp)) (fun v H9 hv => ?_) (fun hb H9 e9 kk => ?_) (fun hb H9 e9 kk => ?_))
      · obtain ⟨m', M', rfl, W9⟩ := hv
        dsimp only [gName, List.set]
        refine ⟨_, rfl, _, rfl, h, dx, p, q, m', i + 1, M', rfl, W9.hs, W9.md, W9.iv.k, fun x hx => by have := W9.iv.l x hx; omega, fun HA eA => ⟨true, rfl, ite_F rfl ?_⟩⟩
        exact ⟨n30, m', M', _, _, _, rfl, W9.ext eA (Nat.le_refl _)⟩
      · cases hbu : badU (stOf M) D with
        | none =>
          rw [hbu] at hv
          rw [show vb = .non from hv] at hb
          exact absurd hb (by simp)
        | some wd =>
          have eq : (stOf M).didU D = stOf M := by unfold Stt.didU; rw [hbu]
          rw [eq] at hs8
          exact ⟨_, rfl, kk _ _ ⟨m, M, rfl, ⟨T8.ext e9, B8.ext e9 (Nat.le_refl _), e9 _ _ (kp8.tup W7.g), hs8.ext e9, (W7.md.keep kp8).ext e9, W.iv⟩⟩⟩
      · cases hbu : badU (stOf M) D with
        | some wd =>
          rw [hbu] at hv
          obtain ⟨pb, rfl, _⟩ := hv
          exact absurd hb (by simp)
        | none =>
          have eq : (stOf M).didU D = stOf (M.putU D) := by unfold Stt.didU; rw [hbu]; exact stOf_putU
          rw [eq] at hs8
          have hd9 := DeedU.At.kp hd8 (Kp.of e9)
          have hM9 := (W7.md.keep kp8).ext e9
          have fin : ∀ (a : Addr) (H' : Hp), Ex H9 H' → MdA K 20 H' a (M.putU D) → W42 K C T b l g ns gw gx gy h dx p q (10 + 101 * (i + 1)) (i + 1) a (M.putU D) H' := fun a H' e md => ⟨T8.ext (e9.trans e), B8.ext (e9.trans e) (Nat.le_refl _), (e9.trans e) _ _ (kp8.tup W7.g), hs8.ext (e9.trans e), md, W.iv.put hbu⟩
          refine ⟨_, rfl, _, rfl, ?_⟩
          cases D with
          | one D0 => exact .inl ⟨m, d, M, D0, rfl, hM9, hd9, good_20 hbu, hlt.1, hlt.2.1, hlt.2.2, fun a H' na e md => kk _ _ ⟨a, _, rfl, fin a H' e md⟩⟩
          | uns cs => exact .inr ⟨m, d, M, cs, rfl, hM9, hd9, hlt.1, fun a H' na e md => kk _ _ ⟨a, _, rfl, fin a H' e md⟩⟩
    · have hL : D.isL := by
        cases D with
        | uns cs => exact True.intro
        | one D0 =>
          cases D0 with
          | lamp c => exact True.intro
          | post B => exact absurd hb (show ¬ inV (V.str "post") [V.str "lamp", .str "unsure"] = true by decide +kernel)
          | pane u v z => exact absurd hb (show ¬ inV (V.str "pane") [V.str "lamp", .str "unsure"] = true by decide +kernel)
      exact ⟨_, rfl, _, rfl, m, d, M, D, rfl, (W6.ext e7 (Nat.le_refl _)).md, DeedU.At.kp hd (Kp.of e7), hL, hfit, hok, W.iv.p, fun v H8 e8 hv => kk v H8 ⟨e7.trans e8, hv⟩⟩
    · have hd7 := DeedU.At.kp hd (Kp.of e7)
      have md7 := (W6.ext e7 (Nat.le_refl _)).md
      cases D with
      | uns cs => exact absurd hb (show ¬ inV (V.str "unsure") [V.str "lamp", .str "unsure"] = false by decide +kernel)
      | one D0 =>
        cases D0 with
        | lamp c => exact absurd hb (show ¬ inV (V.str "lamp") [V.str "lamp", .str "unsure"] = false by decide +kernel)
        | post B => exact ⟨_, rfl, _, rfl, m, d, M, .post B, rfl, md7, hd7, True.intro, fun v H8 e8 hv => kk v H8 ⟨e7.trans e8, hv⟩⟩
        | pane u v z => exact ⟨_, rfl, _, rfl, m, d, M, .pane u v z, rfl, md7, hd7, True.intro, fun v H8 e8 hv => kk v H8 ⟨e7.trans e8, hv⟩⟩
  · obtain ⟨n30, m, M, v5, v6, v7, rfl, W⟩ := z
    generalize hN : 10 + 101 * n.toNat = N at W
    generalize hK : n.toNat = kk at W
    have hk30 : kk ≤ 500 := by omega
    clear hN
    have hll : M.lamps.length ≤ 12 := by
      have z := W.hs.ex
      obtain ⟨_, _, _, _, _, _, _, _, _, hst⟩ := z
      have z := hst.few.1
      rw [show (stOf M).fl.lamps.length = M.lamps.length from List.length_map ..] at z
      exact z
    have hok := W.iv.ok hll
    obtain ⟨far, hfar⟩ : ∃ far : Chc, far = (1000001, 0, 1, 1, 1) := ⟨_, rfl⟩
    obtain ⟨dim, hdim⟩ : ∃ dim : Chc, dim = (0, 0, 1, -1, 1) := ⟨_, rfl⟩
    have t6 : (10 : Int) ^ Int.toNat 6 = 1000000 := by decide
    have uf : EvU (tTup (tCons (tOp (rI0 fun i j => V.int (i + j)) (tOp (rI CPow fun i j => V.int (i ^ j.toNat)) (tC (V.int 10)) (tC (V.int 6))) (tC (V.int 1))) (tCons (tC (.int 0)) (tCons (tC (.int 1)) (tCons (tC (.int 1)) (tCons (tC (.int 1)) tNil)))))) [some (.ref a), some (.ref b), some (.ref g), some (.ref h), some (.ref m), v5, v6, v7, none, none, none, none] H' (chv far) := by
      rw [hfar]
      have z : Ev (tOp (rI0 fun i j => V.int (i + j)) (tOp (rI CPow fun i j => V.int (i ^ j.toNat)) (tC (V.int 10)) (tC (V.int 6))) (tC (V.int 1))) [some (.ref a), some (.ref b), some (.ref g), some (.ref h), some (.ref m), v5, v6, v7, none, none, none, none] H' (.int ((10 : Int) ^ Int.toNat 6 + 1)) := ev_op (ev_op ev_c ev_c (rv_I ⟨by decide, by decide, by decide⟩)) ev_c rv_I0
      rw [t6] at z
      exact eu_tup (ea_cons z (ea_cons ev_c (ea_cons ev_c (ea_cons ev_c (ea_cons ev_c ea_nil))))) (by show 5 ≤ 100000; decide)
    refine q_ev (open_tup2 ?_)
    refine uf H' (Ex.refl _) _ fun fa H1 nfa e1 hfa => ?_
    have ud : EvU (tTup (tCons (tC (.int 0)) (tCons (tC (.int 0)) (tCons (tC (.int 1)) (tCons (tUn (rU fun i => V.int (-i)) (tC (V.int 1))) (tCons (tC (.int 1)) tNil)))))) [some (.ref a), some (.ref b), some (.ref g), some (.ref h), some (.ref m), v5, v6, v7, none, none, none, none] H1 (chv dim) := by
      rw [hdim]
      have z : Ev (tUn (rU fun i => V.int (-i)) (tC (V.int 1))) [some (.ref a), some (.ref b), some (.ref g), some (.ref h), some (.ref m), v5, v6, v7, none, none, none, none] H1 (.int (-1)) := fun H1 _ Q q => ⟨1, rfl, q H1 (Ex.refl _)⟩
      exact eu_tup (ea_cons ev_c (ea_cons ev_c (ea_cons ev_c (ea_cons z (ea_cons ev_c ea_nil))))) (by show 5 ≤ 100000; decide)
    refine ud H1 (Ex.refl _) _ fun da H2 nda e2 hda => ?_
    refine ⟨sz_of (by simp), fun t1 ht1 => ⟨t1, _, rfl, st_of upd_same, rfl, _, _, rfl, _, _, rfl, rfl, ?_⟩⟩
    have x3 := Ex.new (o := .tup [V.ref fa, .ref da]) ht1
    have e03 := (e1.trans e2).trans x3
    have W3 := W.ext e03 (Nat.le_refl _)
    have hfa3 := (e2.trans x3) _ _ hfa
    have hda3 := x3 _ _ hda
    clear W
    generalize upd H2 t1 (.tup [V.ref fa, .ref da]) = H3 at W3 hfa3 hda3 ⊢
    dsimp only [gName, List.set]
    refine q_asgV ⟨W3.t, fun f1 c1 H4 e4 _ T4 _ hf1 hc1 => ⟨sz_of (by simp), fun al hal => ?_⟩⟩
    have eA := Ex.new (o := .lst [V.ref f1]) hal
    have a4 := W3.hs.extN e4
    have S1 : S12 K C T h dx p q al kk (stOf M) [(f1, _)] (upd H4 al (.lst [V.ref f1])) := ⟨T4.ext eA, a4.ext eA, upd_same, fun x hx => by
      rw [List.mem_singleton.mp hx]
      exact ⟨eA _ _ hf1, eA _ _ hc1⟩, a4.new hal⟩
    have md4 := (W3.md.keep (Kp.ofN e4)).ext eA
    have hfa4 := eA _ _ ((Kp.ofN e4).tup hfa3)
    have hda4 := eA _ _ ((Kp.ofN e4).tup hda3)
    generalize upd H4 al (.lst [V.ref f1]) = H5 at S1 md4 hfa4 hda4 ⊢
    dsimp only [List.set]
    clear T4 hf1 hc1 eA hal a4 e4 hfa3 hda3
    have l5 := S1.l
    refine ⟨_, rfl, .inl ⟨rfl, _, sq_of S1.l⟩, S1.tabs, fun f2 c2 H6 e6 _ T6 _ hf2 hc2 => ⟨al, _, _, rfl, rfl, e6 _ _ S1.l (fun _ z => by cases z), sz_lt (by show 1 < 100000; decide), ?_⟩⟩
    have S2 : S12 K C T h dx p q al kk (stOf M) ([(f1, _)] ++ [(f2, _)]) (upd H6 al (.lst ([V.ref f1] ++ [V.ref f2]))) := S1.step e6 T6 hf2 hc2
    have kp6 := (Kp.ofN e6).trans (Kp.upd (o := .lst ([V.ref f1] ++ [V.ref f2])) (e6 _ _ S1.l (fun _ z => by cases z)))
    have md6 := md4.keep kp6
    have hfa6 := kp6.tup hfa4
    have hda6 := kp6.tup hda4
    clear md4 hfa4 hda4 l5 hf2 hc2 T6
    show tSeq _ _ _ _ (upd H6 al (.lst ([V.ref f1] ++ [V.ref f2])))
    generalize hH7 : upd H6 al (.lst ([V.ref f1] ++ [V.ref f2])) = H7 at S2 md6 hfa6 hda6 ⊢
    clear kp6 S1 e6 hH7
    refine ⟨_, rfl, fun base' up clo => ⟨al, [f1, f2], [[.str "badplace"], [.str "badlight"]], rfl, sq_of S2.l, rfl, by show 2 ≤ 1000; decide, fun i gg xs hg hx => ?_, fun r rs GY hr2 eY hrs hl3 tups => ?_⟩⟩
    · have SY := S2
      obtain ⟨fs2, hin, hfl2⟩ := SY.hs.ins
      match i, hg, hx with
          | 0, hg, hx =>
            cases hg; cases hx
            refine tells_fly (C := W "badplace") (fr := ["_law_dim", "_law_far_here", "_law_house"]) (ws := [some (.ref da), some (.ref fa), some (.ref h)]) (sp := fun ws vs H Q E => vs = [] ∧ tMeth C "unsure" (spUnsH K C W) [] E (tVar 2) (tCons (tTup (tCons (tVar 1) (tCons (tVar 0) tNil))) tNil) (NdefX.startF ["_law_dim", "_law_far_here", "_law_house"] [] ws) H Q) ?LO0 ?CC0 rfl (SY.f _ (List.mem_of_getElem? (i := 0) rfl)).1 (SY.f _ (List.mem_of_getElem? (i := 0) rfl)).2 (hW "badplace" (by decide +kernel)) fun H3 Q3 E3 e3 fl => ⟨rfl, _, rfl, h, dx, fs2, rfl, e3 _ _ hin, hfl2 "unsure" (by decide +kernel), ?MM0⟩
            case MM0 =>
              replace fl : Flies (W "badplace") "badplace" H3 E3 := fl
              refine ⟨_, rfl, _, rfl, sz_of (by simp), fun tp htp => ?_⟩
              have x4 := Ex.new (o := .tup [V.ref fa, .ref da]) htp
              have e34 := e3.trans x4
              refine ⟨h, dx, p, q, tp, kk, stOf M, [fa, da], [far, dim], rfl, .inr upd_same, rfl, fun i p c hp hc => ?_, by show 2 ≤ 60; decide, hok, SY.hs.ext e34, hk30, fun wd hw => ?_, fun hn => ?_⟩
              · match i, hp, hc with
                | 0, hp, hc => cases hp; cases hc; exact e34 _ _ hfa6
                | 1, hp, hc => cases hp; cases hc; exact e34 _ _ hda6
              · have ew : wd = "badplace" := by
                  have z : badU (stOf M) (.uns [far, dim]) = some "badplace" := by
                    rw [hfar, hdim]
                    exact bad_far (stOf M)
                  exact Option.some.inj (hw.symm.trans z)
                rw [ew]
                exact Flies.ext fl x4
              · have z : badU (stOf M) (.uns [far, dim]) = some "badplace" := by
                  rw [hfar, hdim]
                  exact bad_far (stOf M)
                rw [hn] at z
                cases z
            case LO0 => exact lok_gen rfl (NdefX.nscope_by (by rfl)) fun A outer s H f E hr => pe_metX (MU base' up) hr (Nat.le_refl _) (passes_call (E := E) (takes_of rfl rfl rfl rfl) (fun _ _ _ _ h => h)) (pe_var (i := 2) rfl (.inr (.inr rfl))) (pa_cons (pe_tup (pa_cons (pe_var (i := 1) rfl (.inr (.inr rfl))) (pa_cons (pe_var (i := 0) rfl (.inr (.inr rfl))) pa_nil))) pa_nil)
            case CC0 =>
              refine clo _ ["_law_dim", "_law_far_here", "_law_house"] [9, 8, 3] fun ok => ?_
              dsimp only
              refine caps_ns ok ?_ ?_ rfl
              · exact free_by (sc := defScope sLaw) (by decide +kernel)
              · decide +kernel
          | 1, hg, hx =>
            cases hg; cases hx
            refine tells_fly (C := W "badlight") (fr := ["_law_dim", "_law_far_here", "_law_house"]) (ws := [some (.ref da), some (.ref fa), some (.ref h)]) (sp := fun ws vs H Q E => vs = [] ∧ tMeth C "unsure" (spUnsH K C W) [] E (tVar 2) (tCons (tLst (tCons (tVar 0) (tCons (tVar 1) tNil))) tNil) (NdefX.startF ["_law_dim", "_law_far_here", "_law_house"] [] ws) H Q) ?LO1 ?CC1 rfl (SY.f _ (List.mem_of_getElem? (i := 1) rfl)).1 (SY.f _ (List.mem_of_getElem? (i := 1) rfl)).2 (hW "badlight" (by decide +kernel)) fun H3 Q3 E3 e3 fl => ⟨rfl, _, rfl, h, dx, fs2, rfl, e3 _ _ hin, hfl2 "unsure" (by decide +kernel), ?MM1⟩
            case MM1 =>
              replace fl : Flies (W "badlight") "badlight" H3 E3 := fl
              refine ⟨_, rfl, _, rfl, sz_of (by simp), fun tp htp => ?_⟩
              have x4 := Ex.new (o := .lst [V.ref da, .ref fa]) htp
              have e34 := e3.trans x4
              refine ⟨h, dx, p, q, tp, kk, stOf M, [da, fa], [dim, far], rfl, .inl (sq_of upd_same), rfl, fun i p c hp hc => ?_, by show 2 ≤ 60; decide, hok, SY.hs.ext e34, hk30, fun wd hw => ?_, fun hn => ?_⟩
              · match i, hp, hc with
                | 0, hp, hc => cases hp; cases hc; exact e34 _ _ hda6
                | 1, hp, hc => cases hp; cases hc; exact e34 _ _ hfa6
              · have ew : wd = "badlight" := by
                  have z : badU (stOf M) (.uns [dim, far]) = some "badlight" := by
                    rw [hfar, hdim]
                    exact bad_dim (stOf M)
                  exact Option.some.inj (hw.symm.trans z)
                rw [ew]
                exact Flies.ext fl x4
              · have z : badU (stOf M) (.uns [dim, far]) = some "badlight" := by
                  rw [hfar, hdim]
                  exact bad_dim (stOf M)
                rw [hn] at z
                cases z
            case LO1 => exact lok_gen rfl (NdefX.nscope_by (by rfl)) fun A outer s H f E hr => pe_metX (MU base' up) hr (Nat.le_refl _) (passes_call (E := E) (takes_of rfl rfl rfl rfl) (fun _ _ _ _ h => h)) (pe_var (i := 2) rfl (.inr (.inr rfl))) (pa_cons (pe_lst (pa_cons (pe_var (i := 0) rfl (.inr (.inr rfl))) (pa_cons (pe_var (i := 1) rfl (.inr (.inr rfl))) pa_nil))) pa_nil)
            case CC1 =>
              refine clo _ ["_law_dim", "_law_far_here", "_law_house"] [9, 8, 3] fun ok => ?_
              dsimp only
              refine caps_ns ok ?_ ?_ rfl
              · exact free_by (sc := defScope sLaw) (by decide +kernel)
              · decide +kernel
          | i + 2, hg, hx => cases hg
    · have RR : RowsD K GY r ([("badplace" : Str), ("badlight" : Str)].map fun w => .tuple [.str w]) := rows_words12 (ws := [("badplace" : Str), ("badlight" : Str)]) hrs hl3 tups
      refine eld_lst (K := K) (ead_cons (ed_tup (ead_cons ed_s ead_nil) (by simp)) (ead_cons (ed_tup (ead_cons ed_s ead_nil) (by simp)) ead_nil)) (by simp) GY (Ex.refl _) _ fun p4 G4 n4 e4 R5 => ?_
      refine ⟨_, _, (RR.ext e4).dp, R5.dp, by decide +kernel, by decide +kernel, false, by decide +kernel, ite_F rfl ?_⟩
      have e74 := eY.trans e4
      have S4 := S2.ext e74
      have md7 := md6.ext e74
      clear RR R5 hrs tups
      generalize hT : ((stOf M).fl.lamps.length + (stOf M).fl.posts.length + (stOf M).fl.panes.length) = tot
      have htot : ((M.lamps.length : Int) + (M.posts.length : Int)) + (M.panes.length : Int) = (tot : Int) := by
        rw [← hT, show (stOf M).fl.lamps.length = M.lamps.length from List.length_map ..]
        show _ = ((M.lamps.length + M.posts.length + M.panes.length : Nat) : Int)
        omega
      have hsm : tot < 2 ^ 60 := by
        obtain ⟨_, _, _, _, _, _, _, _, _, hst⟩ := S4.hs.ex
        obtain ⟨w1, w2, w3, w4⟩ := hst.few
        omega
      obtain ⟨T5', ⟨D5, fm, fT⟩, hc5, hk5, hl5, hp5, hn5⟩ := md7.ex
      have lenE : ∀ {wd : Str} {n : Nat}, wd ∈ mW → (T5' wd).length = n → Ev (tCB rLenF (tCons (tDGet (tVar 4) (tC (.str wd))) tNil)) [some (.ref a), some (.ref b), some (.ref g), some (.ref h), some (.ref m), v5, v6, v7, some (.ref fa), some (.ref da), some (.ref al), none] G4 (.int (n : Int)) := fun {wd n} hw hn HB eB Q' q' => by
        refine (ev_fz (key := .inr wd) (ev_var rfl) ev_c (fm.ext eB) (valV_row hw)) HB (Ex.refl _) _ fun HC eC => ?_
        exact ⟨_, _, rfl, ((fT wd hw).ext (eB.trans eC)).rd, by rw [hn]; exact q' HC eC⟩
      have z3 : Ev (tOp (rI0 fun i j => V.int (i + j)) (tOp (rI0 fun i j => V.int (i + j)) (tCB rLenF (tCons (tDGet (tVar 4) (tC (.str "lamp"))) tNil)) (tCB rLenF (tCons (tDGet (tVar 4) (tC (.str "post"))) tNil))) (tCB rLenF (tCons (tDGet (tVar 4) (tC (.str "pane"))) tNil))) [some (.ref a), some (.ref b), some (.ref g), some (.ref h), some (.ref m), v5, v6, v7, some (.ref fa), some (.ref da), some (.ref al), none] G4 (.int (((M.lamps.length : Int) + (M.posts.length : Int)) + (M.panes.length : Int))) := ev_op (ev_op (lenE (by decide +kernel) hl5.1) (lenE (by decide +kernel) hp5.1) rv_I0) (lenE (by decide +kernel) hn5.1) rv_I0
      rw [htot] at z3
      refine q_asg z3 fun HA eA => ?_
      dsimp only [gName, List.set]
      have SA := S4.ext eA
      refine ⟨SA.tabs, fun f3 c3 H8 e8 _ T8 _ hf3 hc3 base' up clo => ?_⟩
      have a8 := SA.hs.extN e8
      obtain ⟨fs3, hin3, hfl3⟩ := a8.ins
      refine tried_of (k := 9) (fr := ["_law_house"]) (ws := [some (.ref h)]) (sp := fun ws vs H Q E => vs = [] ∧ tMeth C "coming" (spComingE K C cSo) [] E (tVar 0) (tCons (tC (.str "house")) tNil) (NdefX.startF ["_law_house"] [] ws) H Q) ?LO2 ?CC2 rfl hf3 hc3 fun Q' E' hE hQ => ⟨rfl, _, rfl, h, dx, fs3, rfl, hin3, hfl3 "coming" (by decide +kernel), h, dx, p, q, kk, stOf M, "house", rfl, a8, by decide +kernel, fun dd H9 e9 nd9 hd9 => hE cSo dd "badsort" H9 wSo hd9 fun pf hpf => ?_⟩
      case LO2 => exact lok_gen rfl (NdefX.nscope_by (by rfl)) fun A outer s H f E hr => pe_metX (MC base' up) hr (by decide) (passes_call (E := E) (takes_of rfl rfl rfl rfl) (fun _ _ _ _ h => h)) (pe_var (i := 0) rfl (.inr (.inr rfl))) (pa_cons pe_str pa_nil)
      case CC2 =>
        refine clo _ ["_law_house"] [3] fun ok => ?_
        dsimp only
        refine caps_ns ok ?_ ?_ rfl
        · exact free_by (sc := defScope sLaw) (by decide +kernel)
        · decide +kernel
      have x9 := Ex.new (o := .tup [V.str "badsort"]) hpf
      refine (ed_tup (K := K) (ead_cons ed_s ead_nil) (by simp)) _ (Ex.refl _) _ fun v HB eB hv => ?_
      have hpf9 := eB _ _ (upd_same (H := H9) (a := pf) (o := .tup [V.str "badsort"]))
      refine ⟨.tuple [.str "badsort"], .tuple [.str "badsort"], .tup (st_of hpf9) (.cons (.str _) .nil), Dt.dp _ _ hv, by decide +kernel, by decide +kernel, false, by decide +kernel, ite_F rfl ?_⟩
      have aB := a8.ext ((e9.trans x9).trans eB)
      obtain ⟨fs4, hin4, _⟩ := aB.ins
      refine next_go ?_
      dsimp only
      refine open_ret (open_sameE ?_)
      refine ⟨_, rfl, h, dx, fs4, rfl, hin4, h, dx, p, q, kk, stOf M, rfl, aB, fun HC eC => ?_⟩
      rw [hT]
      refine ⟨tot, rfl, hsm, _, rfl, h, dx, fs4, rfl, eC _ _ hin4, h, dx, p, q, kk, stOf M, rfl, aB.ext eC, fun HD eD => ?_⟩
      rw [hT]
      refine ⟨tot, rfl, hsm, sz_of (by simp), fun lp hlp => ⟨_, rfl, _, rfl, _, _, rfl, rfl, sz_of (by simp), fun lq hlq => ?_⟩⟩
      have hb0 : decide (tot ≠ 0) = decide ((0 : Int) < (tot : Int)) := by
        rw [Bool.eq_iff_iff]
        simp
        omega
      have h1 : upd (upd HD lp (.lst [V.int (tot : Int), .bl (decide (tot ≠ 0))])) lq (.lst [V.int (tot : Int), .bl (decide ((0 : Int) < (tot : Int)))]) lp = some (.lst [V.int (tot : Int), .bl (decide (tot ≠ 0))]) := (Ex.new hlq) _ _ upd_same
      rw [hb0] at h1 ⊢
      refine ⟨_, _, rfl, sm_dp (d := .list [.int (tot : Int), .bool (decide ((0 : Int) < (tot : Int)))]) (dOk_list (n := 5) (by show 2 ≤ 1000; decide) fun d hd => ?_) (.lst (sq_of h1) (.cons (.int _) (.cons (.bl _) .nil))) (.lst (sq_of upd_same) (.cons (.int _) (.cons (.bl _) .nil))), fun HE eE => k _⟩
      simp only [List.mem_cons, List.not_mem_nil, or_false] at hd
      rcases hd with rfl | rfl <;> exact True.intro
end
end Hs
namespace Hs
open PySem PySem.Spec PyProof.Rows L2 Evl
/-- the error BadPlace, as it stands -/
theorem BadPlace_ok {P : Program} {w : World} {K : PySem.W.Frag} {mg : Str → Option Value} {base : Heap} (hP : (P.main.file : Str) = "/claim/cut.py") (hPs : (P.main.scope.names.lookup ("super" : Str)).isSome = false) (gs : mg "super" = none) (gx : mg "BadPlace" = some (.ref (He.ga K "BadPlace")))
    (h : errB K dBadPlace = true) (e : fnC K dBadPlace.cls = dBadPlace.val) : ErrF P w K mg base 1 "BadPlace" (He.ga K "BadPlace") "badplace" := by
  obtain ⟨h1, h⟩ := He.ba h
  obtain ⟨h2, h⟩ := He.ba h
  obtain ⟨h3, h⟩ := He.ba h
  obtain ⟨h4, h⟩ := He.ba h
  obtain ⟨h5, h⟩ := He.ba h
  obtain ⟨h6, h⟩ := He.ba h
  obtain ⟨h7, h⟩ := He.ba h
  obtain ⟨h8, h9⟩ := He.ba h
  obtain ⟨c, cc, fd, I0, hf, hc⟩ := iniB_ok e h2
  have ox := oexB_ok h1
  have T : SupC P K mg (He.ga K "BadPlace") c cc "ValueError" "ValueError.__new__" "ValueError.__init__" (tailOf "ValueError") := ⟨ox, by rw [hP]; exact hf, hc, of_decide_eq_true h3, He.eqO_ok h4, of_decide_eq_true h5, He.eqO_ok h6, gs, hPs⟩
  have G : FnOk P w K mg base CX0 1 (iniA K "BadPlace") fd ["self", "why"] (spErr (He.ga K "BadPlace") "badplace") := err_ok (st := sBadPlace) basV T I0 (He.eqO_ok h9) rfl
    (NdefX.nscope_by (by decide +kernel)) rfl rfl rfl rfl rfl (fun _ => rfl) (fun _ => rfl) (fun _ => rfl) (fun _ => rfl) (fun _ => rfl)
  obtain ⟨oc, od, dV, kV, doc, pm, an, ct, osl, rfl, lk, hcd, hD⟩ := I0
  rcases hD with ⟨z, _⟩ | ⟨_, Ta, o, its, m, rfl, lT, oT, rT⟩
  · cases z
  · have hits : ∃ d, its = [d] := by
      have l := rT.length
      match its, l with
      | [d], _ => exact ⟨d, rfl⟩
    obtain ⟨d, rfl⟩ := hits
    have rd : RelV (.str "no such place") d := match rT with
      | .cons r _ => r
    refine ⟨⟨_, _, _, _, basV, ox⟩, gx, _, _, _, _, d, He.eqO_ok h7, of_decide_eq_true h8, G, rd, fun s us X hlen => ?_⟩
    have hl1 : us.length = 1 := by
      rw [List.length_append] at hlen
      exact Nat.succ.inj hlen
    match us, hl1 with
    | [u], _ =>
      refine BindsTo.of_looks fun M => ?_
      exact looks_items X lT oT (.of_pure rfl)
/-- the error BadLight, as it stands -/
theorem BadLight_ok {P : Program} {w : World} {K : PySem.W.Frag} {mg : Str → Option Value} {base : Heap} (hP : (P.main.file : Str) = "/claim/cut.py") (hPs : (P.main.scope.names.lookup ("super" : Str)).isSome = false) (gs : mg "super" = none) (gx : mg "BadLight" = some (.ref (He.ga K "BadLight")))
    (h : errB K dBadLight = true) (e : fnC K dBadLight.cls = dBadLight.val) : ErrF P w K mg base 1 "BadLight" (He.ga K "BadLight") "badlight" := by
  obtain ⟨h1, h⟩ := He.ba h
  obtain ⟨h2, h⟩ := He.ba h
  obtain ⟨h3, h⟩ := He.ba h
  obtain ⟨h4, h⟩ := He.ba h
  obtain ⟨h5, h⟩ := He.ba h
  obtain ⟨h6, h⟩ := He.ba h
  obtain ⟨h7, h⟩ := He.ba h
  obtain ⟨h8, h9⟩ := He.ba h
  obtain ⟨c, cc, fd, I0, hf, hc⟩ := iniB_ok e h2
  have ox := oexB_ok h1
  have T : SupC P K mg (He.ga K "BadLight") c cc "ValueError" "ValueError.__new__" "ValueError.__init__" (tailOf "ValueError") := ⟨ox, by rw [hP]; exact hf, hc, of_decide_eq_true h3, He.eqO_ok h4, of_decide_eq_true h5, He.eqO_ok h6, gs, hPs⟩
  have G : FnOk P w K mg base CX0 1 (iniA K "BadLight") fd ["self", "why"] (spErr (He.ga K "BadLight") "badlight") := err_ok (st := sBadLight) basV T I0 (He.eqO_ok h9) rfl
    (NdefX.nscope_by (by decide +kernel)) rfl rfl rfl rfl rfl (fun _ => rfl) (fun _ => rfl) (fun _ => rfl) (fun _ => rfl) (fun _ => rfl)
  obtain ⟨oc, od, dV, kV, doc, pm, an, ct, osl, rfl, lk, hcd, hD⟩ := I0
  rcases hD with ⟨z, _⟩ | ⟨_, Ta, o, its, m, rfl, lT, oT, rT⟩
  · cases z
  · have hits : ∃ d, its = [d] := by
      have l := rT.length
      match its, l with
      | [d], _ => exact ⟨d, rfl⟩
    obtain ⟨d, rfl⟩ := hits
    have rd : RelV (.str "no such light") d := match rT with
      | .cons r _ => r
    refine ⟨⟨_, _, _, _, basV, ox⟩, gx, _, _, _, _, d, He.eqO_ok h7, of_decide_eq_true h8, G, rd, fun s us X hlen => ?_⟩
    have hl1 : us.length = 1 := by
      rw [List.length_append] at hlen
      exact Nat.succ.inj hlen
    match us, hl1 with
    | [u], _ =>
      refine BindsTo.of_looks fun M => ?_
      exact looks_items X lT oT (.of_pure rfl)
/-- the error BadMenu, as it stands -/
theorem BadMenu_ok {P : Program} {w : World} {K : PySem.W.Frag} {mg : Str → Option Value} {base : Heap} (hP : (P.main.file : Str) = "/claim/cut.py") (hPs : (P.main.scope.names.lookup ("super" : Str)).isSome = false) (gs : mg "super" = none) (gx : mg "BadMenu" = some (.ref (He.ga K "BadMenu")))
    (h : errB K dBadMenu = true) (e : fnC K dBadMenu.cls = dBadMenu.val) : ErrF P w K mg base 1 "BadMenu" (He.ga K "BadMenu") "badmenu" := by
  obtain ⟨h1, h⟩ := He.ba h
  obtain ⟨h2, h⟩ := He.ba h
  obtain ⟨h3, h⟩ := He.ba h
  obtain ⟨h4, h⟩ := He.ba h
  obtain ⟨h5, h⟩ := He.ba h
  obtain ⟨h6, h⟩ := He.ba h
  obtain ⟨h7, h⟩ := He.ba h
  obtain ⟨h8, h9⟩ := He.ba h
  obtain ⟨c, cc, fd, I0, hf, hc⟩ := iniB_ok e h2
  have ox := oexB_ok h1
  have T : SupC P K mg (He.ga K "BadMenu") c cc "ValueError" "ValueError.__new__" "ValueError.__init__" (tailOf "ValueError") := ⟨ox, by rw [hP]; exact hf, hc, of_decide_eq_true h3, He.eqO_ok h4, of_decide_eq_true h5, He.eqO_ok h6, gs, hPs⟩
  have G : FnOk P w K mg base CX0 1 (iniA K "BadMenu") fd ["self", "why"] (spErr (He.ga K "BadMenu") "badmenu") := err_ok (st := sBadMenu) basV T I0 (He.eqO_ok h9) rfl
    (NdefX.nscope_by (by decide +kernel)) rfl rfl rfl rfl rfl (fun _ => rfl) (fun _ => rfl) (fun _ => rfl) (fun _ => rfl) (fun _ => rfl)
  obtain ⟨oc, od, dV, kV, doc, pm, an, ct, osl, rfl, lk, hcd, hD⟩ := I0
  rcases hD with ⟨z, _⟩ | ⟨_, Ta, o, its, m, rfl, lT, oT, rT⟩
  · cases z
  · have hits : ∃ d, its = [d] := by
      have l := rT.length
      match its, l with
      | [d], _ => exact ⟨d, rfl⟩
    obtain ⟨d, rfl⟩ := hits
    have rd : RelV (.str "no such menu") d := match rT with
      | .cons r _ => r
    refine ⟨⟨_, _, _, _, basV, ox⟩, gx, _, _, _, _, d, He.eqO_ok h7, of_decide_eq_true h8, G, rd, fun s us X hlen => ?_⟩
    have hl1 : us.length = 1 := by
      rw [List.length_append] at hlen
      exact Nat.succ.inj hlen
    match us, hl1 with
    | [u], _ =>
      refine BindsTo.of_looks fun M => ?_
      exact looks_items X lT oT (.of_pure rfl)
/-- the error BadBlock, as it stands -/
theorem BadBlock_ok {P : Program} {w : World} {K : PySem.W.Frag} {mg : Str → Option Value} {base : Heap} (hP : (P.main.file : Str) = "/claim/cut.py") (hPs : (P.main.scope.names.lookup ("super" : Str)).isSome = false) (gs : mg "super" = none) (gx : mg "BadBlock" = some (.ref (He.ga K "BadBlock")))
    (h : errB K dBadBlock = true) (e : fnC K dBadBlock.cls = dBadBlock.val) : ErrF P w K mg base 1 "BadBlock" (He.ga K "BadBlock") "badblock" := by
  obtain ⟨h1, h⟩ := He.ba h
  obtain ⟨h2, h⟩ := He.ba h
  obtain ⟨h3, h⟩ := He.ba h
  obtain ⟨h4, h⟩ := He.ba h
  obtain ⟨h5, h⟩ := He.ba h
  obtain ⟨h6, h⟩ := He.ba h
  obtain ⟨h7, h⟩ := He.ba h
  obtain ⟨h8, h9⟩ := He.ba h
  obtain ⟨c, cc, fd, I0, hf, hc⟩ := iniB_ok e h2
  have ox := oexB_ok h1
  have T : SupC P K mg (He.ga K "BadBlock") c cc "ValueError" "ValueError.__new__" "ValueError.__init__" (tailOf "ValueError") := ⟨ox, by rw [hP]; exact hf, hc, of_decide_eq_true h3, He.eqO_ok h4, of_decide_eq_true h5, He.eqO_ok h6, gs, hPs⟩
  have G : FnOk P w K mg base CX0 1 (iniA K "BadBlock") fd ["self", "why"] (spErr (He.ga K "BadBlock") "badblock") := err_ok (st := sBadBlock) basV T I0 (He.eqO_ok h9) rfl
    (NdefX.nscope_by (by decide +kernel)) rfl rfl rfl rfl rfl (fun _ => rfl) (fun _ => rfl) (fun _ => rfl) (fun _ => rfl) (fun _ => rfl)
  obtain ⟨oc, od, dV, kV, doc, pm, an, ct, osl, rfl, lk, hcd, hD⟩ := I0
  rcases hD with ⟨z, _⟩ | ⟨_, Ta, o, its, m, rfl, lT, oT, rT⟩
  · cases z
  · have hits : ∃ d, its = [d] := by
      have l := rT.length
      match its, l with
      | [d], _ => exact ⟨d, rfl⟩
    obtain ⟨d, rfl⟩ := hits
    have rd : RelV (.str "no such block") d := match rT with
      | .cons r _ => r
    refine ⟨⟨_, _, _, _, basV, ox⟩, gx, _, _, _, _, d, He.eqO_ok h7, of_decide_eq_true h8, G, rd, fun s us X hlen => ?_⟩
    have hl1 : us.length = 1 := by
      rw [List.length_append] at hlen
      exact Nat.succ.inj hlen
    match us, hl1 with
    | [u], _ =>
      refine BindsTo.of_looks fun M => ?_
      exact looks_items X lT oT (.of_pure rfl)
/-- the error BadPiece, as it stands -/
theorem BadPiece_ok {P : Program} {w : World} {K : PySem.W.Frag} {mg : Str → Option Value} {base : Heap} (hP : (P.main.file : Str) = "/claim/cut.py") (hPs : (P.main.scope.names.lookup ("super" : Str)).isSome = false) (gs : mg "super" = none) (gx : mg "BadPiece" = some (.ref (He.ga K "BadPiece")))
    (h : errB K dBadPiece = true) (e : fnC K dBadPiece.cls = dBadPiece.val) : ErrF P w K mg base 1 "BadPiece" (He.ga K "BadPiece") "badpiece" := by
  obtain ⟨h1, h⟩ := He.ba h
  obtain ⟨h2, h⟩ := He.ba h
  obtain ⟨h3, h⟩ := He.ba h
  obtain ⟨h4, h⟩ := He.ba h
  obtain ⟨h5, h⟩ := He.ba h
  obtain ⟨h6, h⟩ := He.ba h
  obtain ⟨h7, h⟩ := He.ba h
  obtain ⟨h8, h9⟩ := He.ba h
  obtain ⟨c, cc, fd, I0, hf, hc⟩ := iniB_ok e h2
  have ox := oexB_ok h1
  have T : SupC P K mg (He.ga K "BadPiece") c cc "ValueError" "ValueError.__new__" "ValueError.__init__" (tailOf "ValueError") := ⟨ox, by rw [hP]; exact hf, hc, of_decide_eq_true h3, He.eqO_ok h4, of_decide_eq_true h5, He.eqO_ok h6, gs, hPs⟩
  have G : FnOk P w K mg base CX0 1 (iniA K "BadPiece") fd ["self", "why"] (spErr (He.ga K "BadPiece") "badpiece") := err_ok (st := sBadPiece) basV T I0 (He.eqO_ok h9) rfl
    (NdefX.nscope_by (by decide +kernel)) rfl rfl rfl rfl rfl (fun _ => rfl) (fun _ => rfl) (fun _ => rfl) (fun _ => rfl) (fun _ => rfl)
  obtain ⟨oc, od, dV, kV, doc, pm, an, ct, osl, rfl, lk, hcd, hD⟩ := I0
  rcases hD with ⟨z, _⟩ | ⟨_, Ta, o, its, m, rfl, lT, oT, rT⟩
  · cases z
  · have hits : ∃ d, its = [d] := by
      have l := rT.length
      match its, l with
      | [d], _ => exact ⟨d, rfl⟩
    obtain ⟨d, rfl⟩ := hits
    have rd : RelV (.str "no such piece") d := match rT with
      | .cons r _ => r
    refine ⟨⟨_, _, _, _, basV, ox⟩, gx, _, _, _, _, d, He.eqO_ok h7, of_decide_eq_true h8, G, rd, fun s us X hlen => ?_⟩
    have hl1 : us.length = 1 := by
      rw [List.length_append] at hlen
      exact Nat.succ.inj hlen
    match us, hl1 with
    | [u], _ =>
      refine BindsTo.of_looks fun M => ?_
      exact looks_items X lT oT (.of_pure rfl)
/-- the error BadSift, as it stands -/
theorem BadSift_ok {P : Program} {w : World} {K : PySem.W.Frag} {mg : Str → Option Value} {base : Heap} (hP : (P.main.file : Str) = "/claim/cut.py") (hPs : (P.main.scope.names.lookup ("super" : Str)).isSome = false) (gs : mg "super" = none) (gx : mg "BadSift" = some (.ref (He.ga K "BadSift")))
    (h : errB K dBadSift = true) (e : fnC K dBadSift.cls = dBadSift.val) : ErrF P w K mg base 1 "BadSift" (He.ga K "BadSift") "badsift" := by
  obtain ⟨h1, h⟩ := He.ba h
  obtain ⟨h2, h⟩ := He.ba h
  obtain ⟨h3, h⟩ := He.ba h
  obtain ⟨h4, h⟩ := He.ba h
  obtain ⟨h5, h⟩ := He.ba h
  obtain ⟨h6, h⟩ := He.ba h
  obtain ⟨h7, h⟩ := He.ba h
  obtain ⟨h8, h9⟩ := He.ba h
  obtain ⟨c, cc, fd, I0, hf, hc⟩ := iniB_ok e h2
  have ox := oexB_ok h1
  have T : SupC P K mg (He.ga K "BadSift") c cc "ValueError" "ValueError.__new__" "ValueError.__init__" (tailOf "ValueError") := ⟨ox, by rw [hP]; exact hf, hc, of_decide_eq_true h3, He.eqO_ok h4, of_decide_eq_true h5, He.eqO_ok h6, gs, hPs⟩
  have G : FnOk P w K mg base CX0 1 (iniA K "BadSift") fd ["self", "why"] (spErr (He.ga K "BadSift") "badsift") := err_ok (st := sBadSift) basV T I0 (He.eqO_ok h9) rfl
    (NdefX.nscope_by (by decide +kernel)) rfl rfl rfl rfl rfl (fun _ => rfl) (fun _ => rfl) (fun _ => rfl) (fun _ => rfl) (fun _ => rfl)
  obtain ⟨oc, od, dV, kV, doc, pm, an, ct, osl, rfl, lk, hcd, hD⟩ := I0
  rcases hD with ⟨z, _⟩ | ⟨_, Ta, o, its, m, rfl, lT, oT, rT⟩
  · cases z
  · have hits : ∃ d, its = [d] := by
      have l := rT.length
      match its, l with
      | [d], _ => exact ⟨d, rfl⟩
    obtain ⟨d, rfl⟩ := hits
    have rd : RelV (.str "no such sift") d := match rT with
      | .cons r _ => r
    refine ⟨⟨_, _, _, _, basV, ox⟩, gx, _, _, _, _, d, He.eqO_ok h7, of_decide_eq_true h8, G, rd, fun s us X hlen => ?_⟩
    have hl1 : us.length = 1 := by
      rw [List.length_append] at hlen
      exact Nat.succ.inj hlen
    match us, hl1 with
    | [u], _ =>
      refine BindsTo.of_looks fun M => ?_
      exact looks_items X lT oT (.of_pure rfl)
/-- the error Full, as it stands -/
theorem Full_ok {P : Program} {w : World} {K : PySem.W.Frag} {mg : Str → Option Value} {base : Heap} (hP : (P.main.file : Str) = "/claim/cut.py") (hPs : (P.main.scope.names.lookup ("super" : Str)).isSome = false) (gs : mg "super" = none) (gx : mg "Full" = some (.ref (He.ga K "Full")))
    (h : errB K dFull = true) (e : fnC K dFull.cls = dFull.val) : ErrF P w K mg base 1 "Full" (He.ga K "Full") "full" := by
  obtain ⟨h1, h⟩ := He.ba h
  obtain ⟨h2, h⟩ := He.ba h
  obtain ⟨h3, h⟩ := He.ba h
  obtain ⟨h4, h⟩ := He.ba h
  obtain ⟨h5, h⟩ := He.ba h
  obtain ⟨h6, h⟩ := He.ba h
  obtain ⟨h7, h⟩ := He.ba h
  obtain ⟨h8, h9⟩ := He.ba h
  obtain ⟨c, cc, fd, I0, hf, hc⟩ := iniB_ok e h2
  have ox := oexB_ok h1
  have T : SupC P K mg (He.ga K "Full") c cc "RuntimeError" "RuntimeError.__new__" "RuntimeError.__init__" (tailOf "RuntimeError") := ⟨ox, by rw [hP]; exact hf, hc, of_decide_eq_true h3, He.eqO_ok h4, of_decide_eq_true h5, He.eqO_ok h6, gs, hPs⟩
  have G : FnOk P w K mg base CX0 1 (iniA K "Full") fd ["self", "why"] (spErr (He.ga K "Full") "full") := err_ok (st := sFull) basR T I0 (He.eqO_ok h9) rfl
    (NdefX.nscope_by (by decide +kernel)) rfl rfl rfl rfl rfl (fun _ => rfl) (fun _ => rfl) (fun _ => rfl) (fun _ => rfl) (fun _ => rfl)
  obtain ⟨oc, od, dV, kV, doc, pm, an, ct, osl, rfl, lk, hcd, hD⟩ := I0
  rcases hD with ⟨z, _⟩ | ⟨_, Ta, o, its, m, rfl, lT, oT, rT⟩
  · cases z
  · have hits : ∃ d, its = [d] := by
      have l := rT.length
      match its, l with
      | [d], _ => exact ⟨d, rfl⟩
    obtain ⟨d, rfl⟩ := hits
    have rd : RelV (.str "no more have room") d := match rT with
      | .cons r _ => r
    refine ⟨⟨_, _, _, _, basR, ox⟩, gx, _, _, _, _, d, He.eqO_ok h7, of_decide_eq_true h8, G, rd, fun s us X hlen => ?_⟩
    have hl1 : us.length = 1 := by
      rw [List.length_append] at hlen
      exact Nat.succ.inj hlen
    match us, hl1 with
    | [u], _ =>
      refine BindsTo.of_looks fun M => ?_
      exact looks_items X lT oT (.of_pure rfl)
/-- the error BadSort, as it stands -/
theorem BadSort_ok {P : Program} {w : World} {K : PySem.W.Frag} {mg : Str → Option Value} {base : Heap} (hP : (P.main.file : Str) = "/claim/cut.py") (hPs : (P.main.scope.names.lookup ("super" : Str)).isSome = false) (gs : mg "super" = none) (gx : mg "BadSort" = some (.ref (He.ga K "BadSort")))
    (h : errB K dBadSort = true) (e : fnC K dBadSort.cls = dBadSort.val) : ErrF P w K mg base 1 "BadSort" (He.ga K "BadSort") "badsort" := by
  obtain ⟨h1, h⟩ := He.ba h
  obtain ⟨h2, h⟩ := He.ba h
  obtain ⟨h3, h⟩ := He.ba h
  obtain ⟨h4, h⟩ := He.ba h
  obtain ⟨h5, h⟩ := He.ba h
  obtain ⟨h6, h⟩ := He.ba h
  obtain ⟨h7, h⟩ := He.ba h
  obtain ⟨h8, h9⟩ := He.ba h
  obtain ⟨c, cc, fd, I0, hf, hc⟩ := iniB_ok e h2
  have ox := oexB_ok h1
  have T : SupC P K mg (He.ga K "BadSort") c cc "ValueError" "ValueError.__new__" "ValueError.__init__" (tailOf "ValueError") := ⟨ox, by rw [hP]; exact hf, hc, of_decide_eq_true h3, He.eqO_ok h4, of_decide_eq_true h5, He.eqO_ok h6, gs, hPs⟩
  have G : FnOk P w K mg base CX0 1 (iniA K "BadSort") fd ["self", "why"] (spErr (He.ga K "BadSort") "badsort") := err_ok (st := sBadSort) basV T I0 (He.eqO_ok h9) rfl
    (NdefX.nscope_by (by decide +kernel)) rfl rfl rfl rfl rfl (fun _ => rfl) (fun _ => rfl) (fun _ => rfl) (fun _ => rfl) (fun _ => rfl)
  obtain ⟨oc, od, dV, kV, doc, pm, an, ct, osl, rfl, lk, hcd, hD⟩ := I0
  rcases hD with ⟨z, _⟩ | ⟨_, Ta, o, its, m, rfl, lT, oT, rT⟩
  · cases z
  · have hits : ∃ d, its = [d] := by
      have l := rT.length
      match its, l with
      | [d], _ => exact ⟨d, rfl⟩
    obtain ⟨d, rfl⟩ := hits
    have rd : RelV (.str "no such sort") d := match rT with
      | .cons r _ => r
    refine ⟨⟨_, _, _, _, basV, ox⟩, gx, _, _, _, _, d, He.eqO_ok h7, of_decide_eq_true h8, G, rd, fun s us X hlen => ?_⟩
    have hl1 : us.length = 1 := by
      rw [List.length_append] at hlen
      exact Nat.succ.inj hlen
    match us, hl1 with
    | [u], _ =>
      refine BindsTo.of_looks fun M => ?_
      exact looks_items X lT oT (.of_pure rfl)
theorem facts {P : Program} {w : World} {K : PySem.W.Frag} {h : Heap} {mg : Str → Option Value} {f : Addr} (hP : (P.main.file : Str) = "/claim/cut.py") (hPs : (P.main.scope.names.lookup ("super" : Str)).isSome = false) (X : K.In h) (G : h.Ns mainGlobals mg) (hfa : mg ("law" : Str) = some (.ref f)) (c : SaysY fa fn tb [("_law_tells", none), ("law", none)] [dBadPlace, dBadLight, dBadMenu, dBadBlock, dBadPiece, dBadSift, dFull, dBadSort] exB w h K) :
    ∃ (fd : FuncData) (cc pt c2 p2 : Addr), (h.get? pt = some { cls := .none, data := .fields #[] } ∧ K.lookup pt = none ∧ PySem.W.CodeHd h cc pt) ∧ (h.get? p2 = some { cls := .none, data := .fields #[] } ∧ K.lookup p2 = none ∧ PySem.W.CodeHd h c2 p2) ∧ (∀ (s : Shared) (v : Value), BindsTo s fd ⟨[v], []⟩ [("_law_script", v)]) ∧ ∀ base : Heap, LamX.TabB base mg cc pt → LamX.TabB base mg c2 p2 → FnOk P w K mg base CX0 13 f fd ["_law_script"] (spLaw K [(p2, telQ), (pt, lamQ)]) := by
  have cd := c.x.t.d
  obtain ⟨fd_check_sift, F_check_sift⟩ : ∃ fd, FnP K "check_sift" sCheck (He.ga K "check_sift") fd := cd.def_ 0 (d := dsCheck) rfl
  have m_check_sift := He.glo_ok X G (cd.fact 0 (f := .glo "check_sift") rfl)
  obtain ⟨fd_check_place, F_check_place⟩ : ∃ fd, FnP K "check_place" sPlace (He.ga K "check_place") fd := cd.def_ 1 (d := dsPlace) rfl
  have m_check_place := He.glo_ok X G (cd.fact 1 (f := .glo "check_place") rfl)
  obtain ⟨fd_check_light, F_check_light⟩ : ∃ fd, FnP K "check_light" sLightC (He.ga K "check_light") fd := cd.def_ 2 (d := dsLightC) rfl
  have m_check_light := He.glo_ok X G (cd.fact 2 (f := .glo "check_light") rfl)
  obtain ⟨fd_counts_of, F_counts_of⟩ : ∃ fd, FnP K "counts_of" sCounts (He.ga K "counts_of") fd := cd.def_ 3 (d := dsCounts) rfl
  have m_counts_of := He.glo_ok X G (cd.fact 3 (f := .glo "counts_of") rfl)
  obtain ⟨fd_how_many, F_how_many⟩ : ∃ fd, FnP K "how_many" sMany (He.ga K "how_many") fd := cd.def_ 4 (d := dsMany) rfl
  have m_how_many := He.glo_ok X G (cd.fact 4 (f := .glo "how_many") rfl)
  obtain ⟨fd_bare_floor, F_bare_floor⟩ : ∃ fd, FnP K "bare_floor" sBare (He.ga K "bare_floor") fd := cd.def_ 5 (d := dsBare) rfl
  have m_bare_floor := He.glo_ok X G (cd.fact 5 (f := .glo "bare_floor") rfl)
  obtain ⟨fd_first_state, F_first_state⟩ : ∃ fd, FnP K "first_state" sFirst (He.ga K "first_state") fd := cd.def_ 6 (d := dsFirst) rfl
  have m_first_state := He.glo_ok X G (cd.fact 6 (f := .glo "first_state") rfl)
  obtain ⟨fd_with_thing, F_with_thing⟩ : ∃ fd, FnP K "with_thing" sWith (He.ga K "with_thing") fd := cd.def_ 7 (d := dsWith) rfl
  have m_with_thing := He.glo_ok X G (cd.fact 7 (f := .glo "with_thing") rfl)
  obtain ⟨fd_check_room, F_check_room⟩ : ∃ fd, FnP K "check_room" sRoom (He.ga K "check_room") fd := cd.def_ 8 (d := dsRoom) rfl
  have m_check_room := He.glo_ok X G (cd.fact 8 (f := .glo "check_room") rfl)
  obtain ⟨fd_put, F_put⟩ : ∃ fd, FnP K "put" sPut (He.ga K "put") fd := cd.def_ 9 (d := dsPut) rfl
  have m_put := He.glo_ok X G (cd.fact 9 (f := .glo "put") rfl)
  obtain ⟨fd_do_lamp, F_do_lamp⟩ : ∃ fd, FnP K "do_lamp" sDoLamp (He.ga K "do_lamp") fd := cd.def_ 10 (d := dsDoLamp) rfl
  have m_do_lamp := He.glo_ok X G (cd.fact 10 (f := .glo "do_lamp") rfl)
  obtain ⟨fd_do_unsure, F_do_unsure⟩ : ∃ fd, FnP K "do_unsure" sDoUns (He.ga K "do_unsure") fd := cd.def_ 11 (d := dsDoUns) rfl
  have m_do_unsure := He.glo_ok X G (cd.fact 11 (f := .glo "do_unsure") rfl)
  obtain ⟨fd_do_post, F_do_post⟩ : ∃ fd, FnP K "do_post" sDoPost (He.ga K "do_post") fd := cd.def_ 12 (d := dsDoPost) rfl
  have m_do_post := He.glo_ok X G (cd.fact 12 (f := .glo "do_post") rfl)
  obtain ⟨fd_do_pane, F_do_pane⟩ : ∃ fd, FnP K "do_pane" sDoPane (He.ga K "do_pane") fd := cd.def_ 13 (d := dsDoPane) rfl
  have m_do_pane := He.glo_ok X G (cd.fact 13 (f := .glo "do_pane") rfl)
  obtain ⟨fd_applied, F_applied⟩ : ∃ fd, FnP K "applied" sApplied (He.ga K "applied") fd := cd.def_ 14 (d := dsApplied) rfl
  have m_applied := He.glo_ok X G (cd.fact 14 (f := .glo "applied") rfl)
  obtain ⟨fd__law_same, F__law_same⟩ : ∃ fd, FnP K "_law_same" sSame (He.ga K "_law_same") fd := cd.def_ 15 (d := dsSame) rfl
  have m__law_same := He.glo_ok X G (cd.fact 15 (f := .glo "_law_same") rfl)
  obtain ⟨fd__law_tried, F__law_tried⟩ : ∃ fd, FnP K "_law_tried" sTried (He.ga K "_law_tried") fd := cd.def_ 16 (d := dsTried) rfl
  have m__law_tried := He.glo_ok X G (cd.fact 16 (f := .glo "_law_tried") rfl)
  obtain ⟨fd__law_all_tried, F__law_all_tried⟩ : ∃ fd, FnP K "_law_all_tried" sAll (He.ga K "_law_all_tried") fd := cd.def_ 17 (d := dsAll) rfl
  have m__law_all_tried := He.glo_ok X G (cd.fact 17 (f := .glo "_law_all_tried") rfl)
  obtain ⟨fd__law_pull, F__law_pull⟩ : ∃ fd, FnP K "_law_pull" sPull (He.ga K "_law_pull") fd := cd.def_ 18 (d := dsPull) rfl
  have m__law_pull := He.glo_ok X G (cd.fact 18 (f := .glo "_law_pull") rfl)
  obtain ⟨fd__law_bag, F__law_bag⟩ : ∃ fd, FnP K "_law_bag" sBag (He.ga K "_law_bag") fd := cd.def_ 19 (d := dsBag) rfl
  have m__law_bag := He.glo_ok X G (cd.fact 19 (f := .glo "_law_bag") rfl)
  obtain ⟨fd__law_far, F__law_far⟩ : ∃ fd, FnP K "_law_far" sFar (He.ga K "_law_far") fd := cd.def_ 20 (d := dsFar) rfl
  have m__law_far := He.glo_ok X G (cd.fact 20 (f := .glo "_law_far") rfl)
  obtain ⟨fd__law_grid, F__law_grid⟩ : ∃ fd, FnP K "_law_grid" sGrid (He.ga K "_law_grid") fd := cd.def_ 21 (d := dsGrid) rfl
  have m__law_grid := He.glo_ok X G (cd.fact 21 (f := .glo "_law_grid") rfl)
  obtain ⟨fd__law_spot, F__law_spot⟩ : ∃ fd, FnP K "_law_spot" sSpot (He.ga K "_law_spot") fd := cd.def_ 22 (d := dsSpot) rfl
  have m__law_spot := He.glo_ok X G (cd.fact 22 (f := .glo "_law_spot") rfl)
  obtain ⟨fd__law_other_spot, F__law_other_spot⟩ : ∃ fd, FnP K "_law_other_spot" sOther (He.ga K "_law_other_spot") fd := cd.def_ 23 (d := dsOther) rfl
  have m__law_other_spot := He.glo_ok X G (cd.fact 23 (f := .glo "_law_other_spot") rfl)
  obtain ⟨fd__law_tint, F__law_tint⟩ : ∃ fd, FnP K "_law_tint" sTint (He.ga K "_law_tint") fd := cd.def_ 24 (d := dsTint) rfl
  have m__law_tint := He.glo_ok X G (cd.fact 24 (f := .glo "_law_tint") rfl)
  obtain ⟨fd__law_block, F__law_block⟩ : ∃ fd, FnP K "_law_block" sBlock (He.ga K "_law_block") fd := cd.def_ 25 (d := dsBlock) rfl
  have m__law_block := He.glo_ok X G (cd.fact 25 (f := .glo "_law_block") rfl)
  obtain ⟨fd__law_letters, F__law_letters⟩ : ∃ fd, FnP K "_law_letters" sLetters (He.ga K "_law_letters") fd := cd.def_ 26 (d := dsLetters) rfl
  have m__law_letters := He.glo_ok X G (cd.fact 26 (f := .glo "_law_letters") rfl)
  obtain ⟨fd__law_thing_deed, F__law_thing_deed⟩ : ∃ fd, FnP K "_law_thing_deed" sThingD (He.ga K "_law_thing_deed") fd := cd.def_ 27 (d := dsThingD) rfl
  have m__law_thing_deed := He.glo_ok X G (cd.fact 27 (f := .glo "_law_thing_deed") rfl)
  obtain ⟨fd__law_unsure_deed, F__law_unsure_deed⟩ : ∃ fd, FnP K "_law_unsure_deed" sUnsD (He.ga K "_law_unsure_deed") fd := cd.def_ 28 (d := dsUnsD) rfl
  have m__law_unsure_deed := He.glo_ok X G (cd.fact 28 (f := .glo "_law_unsure_deed") rfl)
  obtain ⟨fd__law_new, F__law_new⟩ : ∃ fd, FnP K "_law_new" sNewM (He.ga K "_law_new") fd := cd.def_ 29 (d := dsNewM) rfl
  have m__law_new := He.glo_ok X G (cd.fact 29 (f := .glo "_law_new") rfl)
  obtain ⟨fd__law_copy, F__law_copy⟩ : ∃ fd, FnP K "_law_copy" sCopyM (He.ga K "_law_copy") fd := cd.def_ 30 (d := dsCopyM) rfl
  have m__law_copy := He.glo_ok X G (cd.fact 30 (f := .glo "_law_copy") rfl)
  obtain ⟨fd__law_beyond, F__law_beyond⟩ : ∃ fd, FnP K "_law_beyond" sBeyond (He.ga K "_law_beyond") fd := cd.def_ 31 (d := dsBeyond) rfl
  have m__law_beyond := He.glo_ok X G (cd.fact 31 (f := .glo "_law_beyond") rfl)
  obtain ⟨fd__law_bad_choice, F__law_bad_choice⟩ : ∃ fd, FnP K "_law_bad_choice" sBadC (He.ga K "_law_bad_choice") fd := cd.def_ 32 (d := dsBadC) rfl
  have m__law_bad_choice := He.glo_ok X G (cd.fact 32 (f := .glo "_law_bad_choice") rfl)
  obtain ⟨fd__law_counts, F__law_counts⟩ : ∃ fd, FnP K "_law_counts" sCountsM (He.ga K "_law_counts") fd := cd.def_ 33 (d := dsCountsM) rfl
  have m__law_counts := He.glo_ok X G (cd.fact 33 (f := .glo "_law_counts") rfl)
  obtain ⟨fd__law_product, F__law_product⟩ : ∃ fd, FnP K "_law_product" sProd (He.ga K "_law_product") fd := cd.def_ 34 (d := dsProd) rfl
  have m__law_product := He.glo_ok X G (cd.fact 34 (f := .glo "_law_product") rfl)
  obtain ⟨fd__law_due_lamp, F__law_due_lamp⟩ : ∃ fd, FnP K "_law_due_lamp" sDueL (He.ga K "_law_due_lamp") fd := cd.def_ 35 (d := dsDueL) rfl
  have m__law_due_lamp := He.glo_ok X G (cd.fact 35 (f := .glo "_law_due_lamp") rfl)
  obtain ⟨fd__law_due_thing, F__law_due_thing⟩ : ∃ fd, FnP K "_law_due_thing" sDueT (He.ga K "_law_due_thing") fd := cd.def_ 36 (d := dsDueT) rfl
  have m__law_due_thing := He.glo_ok X G (cd.fact 36 (f := .glo "_law_due_thing") rfl)
  obtain ⟨fd__law_put, F__law_put⟩ : ∃ fd, FnP K "_law_put" sPutM (He.ga K "_law_put") fd := cd.def_ 37 (d := dsPutM) rfl
  have m__law_put := He.glo_ok X G (cd.fact 37 (f := .glo "_law_put") rfl)
  obtain ⟨fd__law_after_put, F__law_after_put⟩ : ∃ fd, FnP K "_law_after_put" sAfter (He.ga K "_law_after_put") fd := cd.def_ 38 (d := dsAfter) rfl
  have m__law_after_put := He.glo_ok X G (cd.fact 38 (f := .glo "_law_after_put") rfl)
  obtain ⟨fd__law_number_due, F__law_number_due⟩ : ∃ fd, FnP K "_law_number_due" sNumD (He.ga K "_law_number_due") fd := cd.def_ 39 (d := dsNumD) rfl
  have m__law_number_due := He.glo_ok X G (cd.fact 39 (f := .glo "_law_number_due") rfl)
  obtain ⟨fd__law_put_deed, F__law_put_deed⟩ : ∃ fd, FnP K "_law_put_deed" sPutDeed (He.ga K "_law_put_deed") fd := cd.def_ 40 (d := dsPutDeed) rfl
  have m__law_put_deed := He.glo_ok X G (cd.fact 40 (f := .glo "_law_put_deed") rfl)
  obtain ⟨fd__law_things_so, F__law_things_so⟩ : ∃ fd, FnP K "_law_things_so" sThSo (He.ga K "_law_things_so") fd := cd.def_ 41 (d := dsThSo) rfl
  have m__law_things_so := He.glo_ok X G (cd.fact 41 (f := .glo "_law_things_so") rfl)
  obtain ⟨fd__law_tells, F__law_tells⟩ : ∃ fd, FnP K "_law_tells" sTells (He.ga K "_law_tells") fd := cd.def_ 42 (d := dsTells) rfl
  have m__law_tells := He.glo_ok X G (cd.fact 42 (f := .glo "_law_tells") rfl)
  obtain ⟨fd_law, F_law⟩ : ∃ fd, FnP K "law" sLaw (He.ga K "law") fd := cd.def_ 43 (d := dsLaw) rfl
  have m_law := He.glo_ok X G (cd.fact 43 (f := .glo "law") rfl)
  obtain ⟨fd_House___init__, F_House___init__⟩ : ∃ fd, FunD K "__init__" "House.__init__" (defArgs sInit) (defBody sInit) (defScope sInit) [] [] (He.ma K (He.ga K "House") "__init__") fd := cd.def_ 44 (d := dsInit) rfl
  obtain ⟨fd_House_do, F_House_do⟩ : ∃ fd, FunD K "do" "House.do" (defArgs sDo) (defBody sDo) (defScope sDo) [] [] (He.ma K (He.ga K "House") "do") fd := cd.def_ 45 (d := dsDo) rfl
  have mt_House_do := He.meth_ok (cd.fact 91 (f := .meth "House" "do") rfl)
  obtain ⟨fd_House_unsure, F_House_unsure⟩ : ∃ fd, FunD K "unsure" "House.unsure" (defArgs sUnsM) (defBody sUnsM) (defScope sUnsM) [] [] (He.ma K (He.ga K "House") "unsure") fd := cd.def_ 46 (d := dsUnsM) rfl
  have mt_House_unsure := He.meth_ok (cd.fact 92 (f := .meth "House" "unsure") rfl)
  obtain ⟨fd_House_lamps, F_House_lamps⟩ : ∃ fd, FunD K "lamps" "House.lamps" (defArgs sLampsM) (defBody sLampsM) (defScope sLampsM) [] [] (He.ma K (He.ga K "House") "lamps") fd := cd.def_ 47 (d := dsLampsM) rfl
  have mt_House_lamps := He.meth_ok (cd.fact 93 (f := .meth "House" "lamps") rfl)
  obtain ⟨fd_House_posts, F_House_posts⟩ : ∃ fd, FunD K "posts" "House.posts" (defArgs sPostsM) (defBody sPostsM) (defScope sPostsM) [] [] (He.ma K (He.ga K "House") "posts") fd := cd.def_ 48 (d := dsPostsM) rfl
  have mt_House_posts := He.meth_ok (cd.fact 94 (f := .meth "House" "posts") rfl)
  obtain ⟨fd_House_panes, F_House_panes⟩ : ∃ fd, FunD K "panes" "House.panes" (defArgs sPanesM) (defBody sPanesM) (defScope sPanesM) [] [] (He.ma K (He.ga K "House") "panes") fd := cd.def_ 49 (d := dsPanesM) rfl
  have mt_House_panes := He.meth_ok (cd.fact 95 (f := .meth "House" "panes") rfl)
  obtain ⟨fd_House_looks, F_House_looks⟩ : ∃ fd, FunD K "looks" "House.looks" (defArgs sLooksM) (defBody sLooksM) (defScope sLooksM) [] [] (He.ma K (He.ga K "House") "looks") fd := cd.def_ 50 (d := dsLooksM) rfl
  have mt_House_looks := He.meth_ok (cd.fact 96 (f := .meth "House" "looks") rfl)
  obtain ⟨fd_House_coming, F_House_coming⟩ : ∃ fd, FunD K "coming" "House.coming" (defArgs sComing) (defBody sComing) (defScope sComing) [] [] (He.ma K (He.ga K "House") "coming") fd := cd.def_ 51 (d := dsComing) rfl
  have mt_House_coming := He.meth_ok (cd.fact 97 (f := .meth "House" "coming") rfl)
  obtain ⟨fd_House___len__, F_House___len__⟩ : ∃ fd, FunD K "__len__" "House.__len__" (defArgs sLenM) (defBody sLenM) (defScope sLenM) [] [] (He.ma K (He.ga K "House") "__len__") fd := cd.def_ 52 (d := dsLenM) rfl
  have mt_House___len__ := He.meth_ok (cd.fact 98 (f := .meth "House" "__len__") rfl)
  have m_BadPlace := He.glo_ok X G (cd.fact 44 (f := .glo "BadPlace") rfl)
  have m_BadLight := He.glo_ok X G (cd.fact 45 (f := .glo "BadLight") rfl)
  have m_BadMenu := He.glo_ok X G (cd.fact 46 (f := .glo "BadMenu") rfl)
  have m_BadBlock := He.glo_ok X G (cd.fact 47 (f := .glo "BadBlock") rfl)
  have m_BadPiece := He.glo_ok X G (cd.fact 48 (f := .glo "BadPiece") rfl)
  have m_BadSift := He.glo_ok X G (cd.fact 49 (f := .glo "BadSift") rfl)
  have m_Full := He.glo_ok X G (cd.fact 50 (f := .glo "Full") rfl)
  have m_BadSort := He.glo_ok X G (cd.fact 51 (f := .glo "BadSort") rfl)
  have m_ShadeError := He.glo_ok X G (cd.fact 52 (f := .glo "ShadeError") rfl)
  have m_Missing := He.glo_ok X G (cd.fact 53 (f := .glo "Missing") rfl)
  have m_Crowded := He.glo_ok X G (cd.fact 54 (f := .glo "Crowded") rfl)
  have m_NoThing := He.glo_ok X G (cd.fact 55 (f := .glo "NoThing") rfl)
  have m_NoLook := He.glo_ok X G (cd.fact 56 (f := .glo "NoLook") rfl)
  have m_Looked := He.glo_ok X G (cd.fact 57 (f := .glo "Looked") rfl)
  have m_BadText := He.glo_ok X G (cd.fact 58 (f := .glo "BadText") rfl)
  have m_House := He.glo_ok X G (cd.fact 59 (f := .glo "House") rfl)
  have m_SIFTS := He.glo_ok X G (cd.fact 60 (f := .glo "SIFTS") rfl)
  have m_SORTS := He.glo_ok X G (cd.fact 61 (f := .glo "SORTS") rfl)
  have m_FORMS := He.glo_ok X G (cd.fact 62 (f := .glo "FORMS") rfl)
  have m_DOERS := He.glo_ok X G (cd.fact 63 (f := .glo "DOERS") rfl)
  have g_len := He.free_ok X G (cd.fact 64 (f := .free "len") rfl)
  have g_list := He.free_ok X G (cd.fact 65 (f := .free "list") rfl)
  have g_int := He.free_ok X G (cd.fact 66 (f := .free "int") rfl)
  have g_str := He.free_ok X G (cd.fact 67 (f := .free "str") rfl)
  have g_bool := He.free_ok X G (cd.fact 68 (f := .free "bool") rfl)
  have g_tuple := He.free_ok X G (cd.fact 69 (f := .free "tuple") rfl)
  have g_dict := He.free_ok X G (cd.fact 70 (f := .free "dict") rfl)
  have g_set := He.free_ok X G (cd.fact 71 (f := .free "set") rfl)
  have g_isinstance := He.free_ok X G (cd.fact 72 (f := .free "isinstance") rfl)
  have g_all := He.free_ok X G (cd.fact 73 (f := .free "all") rfl)
  have g_any := He.free_ok X G (cd.fact 74 (f := .free "any") rfl)
  have g_range := He.free_ok X G (cd.fact 75 (f := .free "range") rfl)
  have g_super := He.free_ok X G (cd.fact 76 (f := .free "super") rfl)
  have g_min := He.free_ok X G (cd.fact 77 (f := .free "min") rfl)
  have g_max := He.free_ok X G (cd.fact 78 (f := .free "max") rfl)
  have g_abs := He.free_ok X G (cd.fact 79 (f := .free "abs") rfl)
  have g_sorted := He.free_ok X G (cd.fact 80 (f := .free "sorted") rfl)
  obtain ⟨t_FAR, m_FAR⟩ := He.int_ok X G (cd.fact 81 (f := .int "FAR" 1000000) rfl)
  obtain ⟨t_BRIGHT, m_BRIGHT⟩ := He.int_ok X G (cd.fact 82 (f := .int "BRIGHT" 1000000) rfl)
  obtain ⟨t_MOST_THINGS, m_MOST_THINGS⟩ := He.int_ok X G (cd.fact 83 (f := .int "MOST_THINGS" 12) rfl)
  obtain ⟨t_MOST_SETTINGS, m_MOST_SETTINGS⟩ := He.int_ok X G (cd.fact 84 (f := .int "MOST_SETTINGS" 200) rfl)
  have cl_House := He.cls_ok (cd.fact 85 (f := .cls "House") rfl)
  have mk_House := He.mkr_ok (cd.fact 86 (f := .mkr "House") rfl)
  have na_House_state := He.noat_ok (cd.fact 87 (f := .noat "House" "state") rfl)
  have na_House_past := He.noat_ok (cd.fact 88 (f := .noat "House" "past") rfl)
  have na_House_ahead := He.noat_ok (cd.fact 89 (f := .noat "House" "ahead") rfl)
  have na_House_trying := He.noat_ok (cd.fact 90 (f := .noat "House" "trying") rfl)
  obtain ⟨es_FORMS, n_FORMS, D_FORMS⟩ : ∃ es n, KDict K w (He.ga K "FORMS") es n := c.x.t.tab 0
  obtain ⟨es_DOERS, n_DOERS, D_DOERS⟩ : ∃ es n, KDict K w (He.ga K "DOERS") es n := c.x.t.tab 1
  have ef : f = He.ga K "law" := by
    have e := hfa.symm.trans m_law
    cases e
    rfl
  subst ef
  have x0 : (He.tupB K "SIFTS" [.str "", .str "r", .str "g", .str "b", .str "rg", .str "rb", .str "gb", .str "rgb"] && (He.tupB K "SORTS" [.str "lamp", .str "post", .str "pane"] && (strB (PySem.W.nsIn K (He.ga K "FORMS") "lamp") "nnnnn" && (strB (PySem.W.nsIn K (He.ga K "FORMS") "unsure") "c" && (strB (PySem.W.nsIn K (He.ga K "FORMS") "post") "nnnn" && (strB (PySem.W.nsIn K (He.ga K "FORMS") "pane") "nnnns" && (He.eqO (PySem.W.nsIn K (He.ga K "DOERS") "lamp") (some (some (.ref (He.ga K "do_lamp")))) && (He.eqO (PySem.W.nsIn K (He.ga K "DOERS") "unsure") (some (some (.ref (He.ga K "do_unsure")))) && (He.eqO (PySem.W.nsIn K (He.ga K "DOERS") "post") (some (some (.ref (He.ga K "do_post")))) && (He.eqO (PySem.W.nsIn K (He.ga K "DOERS") "pane") (some (some (.ref (He.ga K "do_pane")))) && (decide (He.ga K "do_unsure" ≠ He.ga K "do_lamp") && (decide (He.ga K "do_post" ≠ He.ga K "do_lamp") && (decide (He.ga K "do_post" ≠ He.ga K "do_unsure") && (decide (He.ga K "do_pane" ≠ He.ga K "do_lamp") && (decide (He.ga K "do_pane" ≠ He.ga K "do_unsure") && (decide (He.ga K "do_pane" ≠ He.ga K "do_post") && (wordB K (He.ga K "BadPlace") (He.ga K "NoThing") (He.ga K "NoLook") (He.ga K "Looked") (He.ga K "BadText") (He.ga K "ShadeError") (He.ga K "Missing") (He.ga K "Crowded") && (wordB K (He.ga K "BadLight") (He.ga K "NoThing") (He.ga K "NoLook") (He.ga K "Looked") (He.ga K "BadText") (He.ga K "ShadeError") (He.ga K "Missing") (He.ga K "Crowded") && (wordB K (He.ga K "BadMenu") (He.ga K "NoThing") (He.ga K "NoLook") (He.ga K "Looked") (He.ga K "BadText") (He.ga K "ShadeError") (He.ga K "Missing") (He.ga K "Crowded") && (wordB K (He.ga K "BadBlock") (He.ga K "NoThing") (He.ga K "NoLook") (He.ga K "Looked") (He.ga K "BadText") (He.ga K "ShadeError") (He.ga K "Missing") (He.ga K "Crowded") && (wordB K (He.ga K "BadPiece") (He.ga K "NoThing") (He.ga K "NoLook") (He.ga K "Looked") (He.ga K "BadText") (He.ga K "ShadeError") (He.ga K "Missing") (He.ga K "Crowded") && (wordB K (He.ga K "BadSift") (He.ga K "NoThing") (He.ga K "NoLook") (He.ga K "Looked") (He.ga K "BadText") (He.ga K "ShadeError") (He.ga K "Missing") (He.ga K "Crowded") && (wordB K (He.ga K "Full") (He.ga K "NoThing") (He.ga K "NoLook") (He.ga K "Looked") (He.ga K "BadText") (He.ga K "ShadeError") (He.ga K "Missing") (He.ga K "Crowded") && (wordB K (He.ga K "BadSort") (He.ga K "NoThing") (He.ga K "NoLook") (He.ga K "Looked") (He.ga K "BadText") (He.ga K "ShadeError") (He.ga K "Missing") (He.ga K "Crowded") && (decide (He.tabOf K (He.codeOf K ("_law_tells", none)) ≠ He.tabOf K (He.codeOf K ("law", none))) && (He.eqO (PySem.W.findIn K (.ref (He.ga K "House")) "__bool__") (some none))))))))))))))))))))))))))) = true := c.x.more
  obtain ⟨xt_SIFTS, x0⟩ := He.ba x0
  obtain ⟨xt_SORTS, x0⟩ := He.ba x0
  obtain ⟨xm_flamp, x0⟩ := He.ba x0
  obtain ⟨xm_funsure, x0⟩ := He.ba x0
  obtain ⟨xm_fpost, x0⟩ := He.ba x0
  obtain ⟨xm_fpane, x0⟩ := He.ba x0
  obtain ⟨xm_dlamp, x0⟩ := He.ba x0
  obtain ⟨xm_dunsure, x0⟩ := He.ba x0
  obtain ⟨xm_dpost, x0⟩ := He.ba x0
  obtain ⟨xm_dpane, x0⟩ := He.ba x0
  obtain ⟨xm_nunsure_lamp, x0⟩ := He.ba x0
  obtain ⟨xm_npost_lamp, x0⟩ := He.ba x0
  obtain ⟨xm_npost_unsure, x0⟩ := He.ba x0
  obtain ⟨xm_npane_lamp, x0⟩ := He.ba x0
  obtain ⟨xm_npane_unsure, x0⟩ := He.ba x0
  obtain ⟨xm_npane_post, x0⟩ := He.ba x0
  obtain ⟨xm_wBadPlace, x0⟩ := He.ba x0
  obtain ⟨xm_wBadLight, x0⟩ := He.ba x0
  obtain ⟨xm_wBadMenu, x0⟩ := He.ba x0
  obtain ⟨xm_wBadBlock, x0⟩ := He.ba x0
  obtain ⟨xm_wBadPiece, x0⟩ := He.ba x0
  obtain ⟨xm_wBadSift, x0⟩ := He.ba x0
  obtain ⟨xm_wFull, x0⟩ := He.ba x0
  obtain ⟨xm_wBadSort, x0⟩ := He.ba x0
  obtain ⟨xm_tabs, x0⟩ := He.ba x0
  have xm_nobool := x0
  obtain ⟨erB_BadPlace, erV_BadPlace⟩ := c.er dBadPlace (by simp)
  have Er_BadPlace : ∀ base : Heap, ErrF P w K mg base 1 "BadPlace" (He.ga K "BadPlace") "badplace" := fun base => BadPlace_ok hP hPs g_super m_BadPlace erB_BadPlace erV_BadPlace
  obtain ⟨erB_BadLight, erV_BadLight⟩ := c.er dBadLight (by simp)
  have Er_BadLight : ∀ base : Heap, ErrF P w K mg base 1 "BadLight" (He.ga K "BadLight") "badlight" := fun base => BadLight_ok hP hPs g_super m_BadLight erB_BadLight erV_BadLight
  obtain ⟨erB_BadMenu, erV_BadMenu⟩ := c.er dBadMenu (by simp)
  have Er_BadMenu : ∀ base : Heap, ErrF P w K mg base 1 "BadMenu" (He.ga K "BadMenu") "badmenu" := fun base => BadMenu_ok hP hPs g_super m_BadMenu erB_BadMenu erV_BadMenu
  obtain ⟨erB_BadBlock, erV_BadBlock⟩ := c.er dBadBlock (by simp)
  have Er_BadBlock : ∀ base : Heap, ErrF P w K mg base 1 "BadBlock" (He.ga K "BadBlock") "badblock" := fun base => BadBlock_ok hP hPs g_super m_BadBlock erB_BadBlock erV_BadBlock
  obtain ⟨erB_BadPiece, erV_BadPiece⟩ := c.er dBadPiece (by simp)
  have Er_BadPiece : ∀ base : Heap, ErrF P w K mg base 1 "BadPiece" (He.ga K "BadPiece") "badpiece" := fun base => BadPiece_ok hP hPs g_super m_BadPiece erB_BadPiece erV_BadPiece
  obtain ⟨erB_BadSift, erV_BadSift⟩ := c.er dBadSift (by simp)
  have Er_BadSift : ∀ base : Heap, ErrF P w K mg base 1 "BadSift" (He.ga K "BadSift") "badsift" := fun base => BadSift_ok hP hPs g_super m_BadSift erB_BadSift erV_BadSift
  obtain ⟨erB_Full, erV_Full⟩ := c.er dFull (by simp)
  have Er_Full : ∀ base : Heap, ErrF P w K mg base 1 "Full" (He.ga K "Full") "full" := fun base => Full_ok hP hPs g_super m_Full erB_Full erV_Full
  obtain ⟨erB_BadSort, erV_BadSort⟩ := c.er dBadSort (by simp)
  have Er_BadSort : ∀ base : Heap, ErrF P w K mg base 1 "BadSort" (He.ga K "BadSort") "badsort" := fun base => BadSort_ok hP hPs g_super m_BadSort erB_BadSort erV_BadSort
  have hb := FunD.bindsA (ps := ["_law_script"]) F_law (fun _ _ _ _ _ _ us hl => match us, hl with | [_], _ => rfl)
  obtain ⟨oc, od, dV, kV, doc, pm, an, cdv, ctt, osl, rfl, lk, hcd, _, _⟩ := F_law.ex
  obtain ⟨cc, rfl⟩ := He.codeIn_ref hcd
  have ecc : He.codeOf K ("law", none) = cc := He.codeOf_eq (p := ("law", none)) lk rfl
  obtain ⟨oc2, od2, dV2, kV2, doc2, pm2, an2, cdv2, ctt2, osl2, rfl, lk2, hcd2, _, _⟩ := F__law_tells.ex
  obtain ⟨c2, rfl⟩ := He.codeIn_ref hcd2
  have ecc2 : He.codeOf K ("_law_tells", none) = c2 := He.codeOf_eq (p := ("_law_tells", none)) lk2 rfl
  have inL : (("law", none) : He.Defn) ∈ ([("_law_tells", none), ("law", none)] : List He.Defn) := List.mem_cons_of_mem _ (List.mem_singleton.mpr rfl)
  have inM : (("_law_tells", none) : He.Defn) ∈ ([("_law_tells", none), ("law", none)] : List He.Defn) := List.mem_cons_self ..
  refine ⟨_, cc, He.tabOf K cc, c2, He.tabOf K c2, ⟨?_, ?_, ?_⟩, ⟨?_, ?_, ?_⟩, fun s v => hb s [v] rfl, fun base TB TB2 => ?_⟩
  · have z := c.x.empty ("law", none) inL
    rw [← ecc]
    exact z
  · have z := c.x.out ("law", none) inL
    rw [← ecc]
    exact z
  · have z := c.x.hd ("law", none) inL
    rw [← ecc]
    exact PySem.W.codeHd_of_K X z
  · have z := c.x.empty ("_law_tells", none) inM
    rw [← ecc2]
    exact z
  · have z := c.x.out ("_law_tells", none) inM
    rw [← ecc2]
    exact z
  · have z := c.x.hd ("_law_tells", none) inM
    rw [← ecc2]
    exact PySem.W.codeHd_of_K X z
  have hC : HouseC K (He.ga K "House") := ⟨cl_House, na_House_state, na_House_past, na_House_ahead, na_House_trying⟩
  have ct : Cats mg (He.ga K "NoThing") (He.ga K "NoLook") (He.ga K "Looked") (He.ga K "BadText") (He.ga K "ShadeError") (He.ga K "Missing") (He.ga K "Crowded") := ⟨m_NoThing, m_NoLook, m_Looked, m_BadText, m_ShadeError, m_Missing, m_Crowded⟩
  have ntab : He.tabOf K c2 ≠ He.tabOf K cc := by
    have z := of_decide_eq_true xm_tabs
    rw [ecc, ecc2] at z
    exact z
  obtain ⟨W, W1, W2, W3, W4, W5, W6, W7⟩ := wmap (He.ga K "BadPlace") (He.ga K "BadLight") (He.ga K "BadMenu") (He.ga K "BadBlock") (He.ga K "BadPiece") (He.ga K "BadSift") (He.ga K "Full")
  have hW : ∀ wd ∈ wrds7, Word K (W wd) (He.ga K "NoThing") (He.ga K "NoLook") (He.ga K "Looked") (He.ga K "BadText") (He.ga K "ShadeError") (He.ga K "Missing") (He.ga K "Crowded") := fun wd h => by
    simp only [wrds7, List.mem_cons, List.not_mem_nil, or_false] at h
    rcases h with rfl | rfl | rfl | rfl | rfl | rfl | rfl
    · rw [W1]
      exact wordB_ok xm_wBadPlace
    · rw [W2]
      exact wordB_ok xm_wBadLight
    · rw [W3]
      exact wordB_ok xm_wBadMenu
    · rw [W4]
      exact wordB_ok xm_wBadBlock
    · rw [W5]
      exact wordB_ok xm_wBadPiece
    · rw [W6]
      exact wordB_ok xm_wBadSift
    · rw [W7]
      exact wordB_ok xm_wFull
  have PR : ∀ base : Heap, (MetX P w K mg base 7 (He.ga K "House") "do" ["self", "deed"] [] (spPutR K (He.ga K "House") W)) ∧ (MkX P w K mg base 3 "House" (He.ga K "House") ["self"] (spInit K (He.ga K "House"))) ∧ (MetX P w K mg base 8 (He.ga K "House") "unsure" ["self", "choices"] [] (spUnsH K (He.ga K "House") W)) ∧ (MetX P w K mg base 3 (He.ga K "House") "coming" ["self", "sort"] [] (spComingE K (He.ga K "House") (He.ga K "BadSort"))) := fun base => by
    have X_check_sift : OwnX P w K mg base 3 "check_sift" ["sift"] [] _ := ⟨_, _, [], ok_check (P := P) (w := w) (mg := mg) (base := base) F_check_sift (Er_BadSift base) ⟨m_SIFTS, rfl⟩ (fun H => He.tupB_ok xt_SIFTS H), m_check_sift, F_check_sift.kp, .nil, F_check_sift.bindsN (fun _ _ _ _ _ _ us hl => match us, hl with | [_], _ => rfl)⟩
    have X_check_place : OwnX P w K mg base 3 "check_place" ["place"] [] _ := ⟨_, _, [], ok_place (P := P) (w := w) (mg := mg) (base := base) F_check_place (Er_BadPlace base) g_max g_abs ⟨_, m_FAR, ⟨t_FAR, rfl⟩⟩, m_check_place, F_check_place.kp, .nil, F_check_place.bindsN (fun _ _ _ _ _ _ us hl => match us, hl with | [_], _ => rfl)⟩
    have X_check_light : OwnX P w K mg base 3 "check_light" ["light", "most"] [] _ := ⟨_, _, [], ok_lightC (P := P) (w := w) (mg := mg) (base := base) F_check_light (Er_BadLight base) g_max g_min, m_check_light, F_check_light.kp, .nil, F_check_light.bindsN (fun _ _ _ _ _ _ us hl => match us, hl with | [_, _], _ => rfl)⟩
    have O_counts_of := own_of F_counts_of m_counts_of (ok_counts (P := P) (w := w) (mg := mg) (base := base) F_counts_of g_len) (fun _ _ _ _ _ _ us hl => match us, hl with | [_], _ => rfl)
    have O_how_many := own_of F_how_many m_how_many (ok_manyW (P := P) (w := w) (mg := mg) (base := base) F_how_many ) (fun _ _ _ _ _ _ us hl => match us, hl with | [_], _ => rfl)
    have O_bare_floor := own_of F_bare_floor m_bare_floor (ok_bare (P := P) (w := w) (mg := mg) (base := base) F_bare_floor ⟨m_SORTS, rfl⟩ (fun H => He.tupB_ok xt_SORTS H)) (fun _ _ _ _ _ _ us hl => match us, hl with | [], _ => rfl)
    have O_first_state := own_of F_first_state m_first_state (ok_first (P := P) (w := w) (mg := mg) (base := base) F_first_state O_bare_floor) (fun _ _ _ _ _ _ us hl => match us, hl with | [], _ => rfl)
    have O_with_thing := own_of F_with_thing m_with_thing (ok_with (P := P) (w := w) (mg := mg) (base := base) F_with_thing ) (fun _ _ _ _ _ _ us hl => match us, hl with | [_, _, _, _], _ => rfl)
    have X_check_room : OwnX P w K mg base 3 "check_room" ["rows", "most"] [] _ := ⟨_, _, [], ok_room (P := P) (w := w) (mg := mg) (base := base) F_check_room (Er_Full base) g_len, m_check_room, F_check_room.kp, .nil, F_check_room.bindsN (fun _ _ _ _ _ _ us hl => match us, hl with | [_, _], _ => rfl)⟩
    have X_put : OwnX P w K mg base 4 "put" ["state", "sort", "thing"] [] _ := ⟨_, _, [], ok_put (P := P) (w := w) (mg := mg) (base := base) F_put X_check_room O_with_thing ⟨_, m_MOST_THINGS, ⟨t_MOST_THINGS, rfl⟩⟩, m_put, F_put.kp, .nil, F_put.bindsN (fun _ _ _ _ _ _ us hl => match us, hl with | [_, _, _], _ => rfl)⟩
    have H_lamp : HeldX P w K mg base 5 (He.ga K "do_lamp") (spDoLamp K (He.ga K "BadPlace") (He.ga K "BadLight") (He.ga K "Full")) := ⟨_, _, FnOk.mono (ok_doLamp (P := P) (w := w) (mg := mg) (base := base) F_do_lamp X_check_place X_check_light X_put ⟨_, m_BRIGHT, ⟨t_BRIGHT, rfl⟩⟩) (by decide), F_do_lamp.kp, F_do_lamp.bindsN (fun _ _ _ _ _ _ us hl => match us, hl with | [_, _, _, _, _, _], _ => rfl)⟩
    have H_unsure : HeldX P w K mg base 5 (He.ga K "do_unsure") (spDoUns K 20 W) := ⟨_, _, FnOk.mono (ok_doUns (P := P) (w := w) (mg := mg) (base := base) F_do_unsure (by rw [W1]; exact X_check_place) (by rw [W2]; exact X_check_light) O_how_many O_counts_of (by rw [W7]; exact X_put) (by rw [W3]; exact Er_BadMenu base) (by rw [W7]; exact Er_Full base) g_len g_set ⟨_, m_BRIGHT, ⟨t_BRIGHT, rfl⟩⟩ ⟨_, m_MOST_SETTINGS, ⟨t_MOST_SETTINGS, rfl⟩⟩) (by decide), F_do_unsure.kp, F_do_unsure.bindsN (fun _ _ _ _ _ _ us hl => match us, hl with | [_, _], _ => rfl)⟩
    have H_post : HeldX P w K mg base 5 (He.ga K "do_post") (spDoPost K (He.ga K "BadPlace") (He.ga K "BadBlock") (He.ga K "Full")) := ⟨_, _, FnOk.mono (ok_doPost (P := P) (w := w) (mg := mg) (base := base) F_do_post X_check_place (Er_BadBlock base) X_put) (by decide), F_do_post.kp, F_do_post.bindsN (fun _ _ _ _ _ _ us hl => match us, hl with | [_, _, _, _, _], _ => rfl)⟩
    have H_pane : HeldX P w K mg base 5 (He.ga K "do_pane") (spDoPane K (He.ga K "BadPlace") (He.ga K "BadPiece") (He.ga K "BadSift") (He.ga K "Full")) := ⟨_, _, FnOk.mono (ok_doPane (P := P) (w := w) (mg := mg) (base := base) F_do_pane X_check_place (Er_BadPiece base) X_check_sift X_put) (by decide), F_do_pane.kp, F_do_pane.bindsN (fun _ _ _ _ _ _ us hl => match us, hl with | [_, _, _, _, _, _], _ => rfl)⟩
    let S : Addr → Option Sp := fun a => if a = He.ga K "do_lamp" then some (spDoLamp K (He.ga K "BadPlace") (He.ga K "BadLight") (He.ga K "Full")) else if a = He.ga K "do_unsure" then some (spDoUns K 20 W) else if a = He.ga K "do_post" then some (spDoPost K (He.ga K "BadPlace") (He.ga K "BadBlock") (He.ga K "Full")) else if a = He.ga K "do_pane" then some (spDoPane K (He.ga K "BadPlace") (He.ga K "BadPiece") (He.ga K "BadSift") (He.ga K "Full")) else none
    have HS : ∀ f sp, S f = some sp → HeldX P w K mg base 5 f sp := fun f sp h => by
      have h : (if f = He.ga K "do_lamp" then some (spDoLamp K (He.ga K "BadPlace") (He.ga K "BadLight") (He.ga K "Full")) else if f = He.ga K "do_unsure" then some (spDoUns K 20 W) else if f = He.ga K "do_post" then some (spDoPost K (He.ga K "BadPlace") (He.ga K "BadBlock") (He.ga K "Full")) else if f = He.ga K "do_pane" then some (spDoPane K (He.ga K "BadPlace") (He.ga K "BadPiece") (He.ga K "BadSift") (He.ga K "Full")) else none) = some sp := h
      by_cases e0 : f = He.ga K "do_lamp"
      · rw [if_pos e0] at h
        cases h
        rw [e0]
        exact H_lamp
      rw [if_neg e0] at h
      by_cases e1 : f = He.ga K "do_unsure"
      · rw [if_pos e1] at h
        cases h
        rw [e1]
        exact H_unsure
      rw [if_neg e1] at h
      by_cases e2 : f = He.ga K "do_post"
      · rw [if_pos e2] at h
        cases h
        rw [e2]
        exact H_post
      rw [if_neg e2] at h
      by_cases e3 : f = He.ga K "do_pane"
      · rw [if_pos e3] at h
        cases h
        rw [e3]
        exact H_pane
      rw [if_neg e3] at h
      cases h
    obtain ⟨tk_lamp, hf_lamp⟩ := strB_ok xm_flamp
    have D_lamp : DoerA K (He.ga K "FORMS") (He.ga K "DOERS") S "lamp" "nnnnn" (spDoLamp K (He.ga K "BadPlace") (He.ga K "BadLight") (He.ga K "Full")) := ⟨tk_lamp, _, hf_lamp, He.eqO_ok xm_dlamp, if_pos rfl⟩
    obtain ⟨tk_unsure, hf_unsure⟩ := strB_ok xm_funsure
    have D_unsure : DoerA K (He.ga K "FORMS") (He.ga K "DOERS") S "unsure" "c" (spDoUns K 20 W) := ⟨tk_unsure, _, hf_unsure, He.eqO_ok xm_dunsure, (if_neg (of_decide_eq_true xm_nunsure_lamp)).trans (if_pos rfl)⟩
    obtain ⟨tk_post, hf_post⟩ := strB_ok xm_fpost
    have D_post : DoerA K (He.ga K "FORMS") (He.ga K "DOERS") S "post" "nnnn" (spDoPost K (He.ga K "BadPlace") (He.ga K "BadBlock") (He.ga K "Full")) := ⟨tk_post, _, hf_post, He.eqO_ok xm_dpost, (if_neg (of_decide_eq_true xm_npost_lamp)).trans ((if_neg (of_decide_eq_true xm_npost_unsure)).trans (if_pos rfl))⟩
    obtain ⟨tk_pane, hf_pane⟩ := strB_ok xm_fpane
    have D_pane : DoerA K (He.ga K "FORMS") (He.ga K "DOERS") S "pane" "nnnns" (spDoPane K (He.ga K "BadPlace") (He.ga K "BadPiece") (He.ga K "BadSift") (He.ga K "Full")) := ⟨tk_pane, _, hf_pane, He.eqO_ok xm_dpane, (if_neg (of_decide_eq_true xm_npane_lamp)).trans ((if_neg (of_decide_eq_true xm_npane_unsure)).trans ((if_neg (of_decide_eq_true xm_npane_post)).trans (if_pos rfl)))⟩
    have X_applied : OwnX P w K mg base 6 "applied" ["state", "deed"] [] (spApplied K (He.ga K "FORMS") (He.ga K "DOERS") S) := ⟨_, _, [], ok_applied F_applied D_FORMS D_DOERS HS g_len ⟨m_FORMS, rfl⟩ ⟨m_DOERS, rfl⟩, m_applied, F_applied.kp, .nil, F_applied.bindsN (fun _ _ _ _ _ _ us hl => match us, hl with | [_, _], _ => rfl)⟩
    have M_do : MetX P w K mg base 7 (He.ga K "House") "do" ["self", "deed"] [] (spPutR K (He.ga K "House") W) := ⟨cl_House, _, _, [], (ok_do F_House_do hC X_applied).imp (do_putR (C := He.ga K "House") (W := W) (by rw [W1, W2, W7]; exact D_lamp) (by rw [W1, W4, W7]; exact D_post) (by rw [W1, W5, W6, W7]; exact D_pane) D_unsure), mt_House_do, .nil, F_House_do.bindsN (fun _ _ _ _ _ _ us hl => match us, hl with | [_, _], _ => rfl)⟩
    have M_House : MkX P w K mg base 3 "House" (He.ga K "House") ["self"] (spInit K (He.ga K "House")) := ⟨_, _, mk_House, ok_init F_House___init__ hC O_first_state, m_House, F_House___init__.bindsN (fun _ _ _ _ _ _ us hl => match us, hl with | [_], _ => rfl)⟩
    have M_unsure : MetX P w K mg base 8 (He.ga K "House") "unsure" ["self", "choices"] [] (spUnsH K (He.ga K "House") W) := ⟨cl_House, _, _, [], (ok_unsM F_House_unsure M_do g_tuple).imp uns_h, mt_House_unsure, .nil, F_House_unsure.bindsN (fun _ _ _ _ _ _ us hl => match us, hl with | [_, _], _ => rfl)⟩
    have M_comingE : MetX P w K mg base 3 (He.ga K "House") "coming" ["self", "sort"] [] (spComingE K (He.ga K "House") (He.ga K "BadSort")) := ⟨cl_House, _, _, [], ok_comingE F_House_coming hC (Er_BadSort base), mt_House_coming, .nil, F_House_coming.bindsN (fun _ _ _ _ _ _ us hl => match us, hl with | [_, _], _ => rfl)⟩
    exact ⟨M_do, M_House, M_unsure, M_comingE⟩
  have M_lamps : MetX P w K mg base 1 (He.ga K "House") "lamps" ["self"] [] (spRowsH K (He.ga K "House") 20 (fun S => S.fl.lamps.map lampD)) := ⟨cl_House, _, _, [], fn_cx (ok_lampsM F_House_lamps hC), mt_House_lamps, .nil, F_House_lamps.bindsN (fun _ _ _ _ _ _ us hl => match us, hl with | [_], _ => rfl)⟩
  have M_posts : MetX P w K mg base 1 (He.ga K "House") "posts" ["self"] [] (spRowsH K (He.ga K "House") 20 (fun S => S.fl.posts.map postD)) := ⟨cl_House, _, _, [], fn_cx (ok_postsM F_House_posts hC), mt_House_posts, .nil, F_House_posts.bindsN (fun _ _ _ _ _ _ us hl => match us, hl with | [_], _ => rfl)⟩
  have M_panes : MetX P w K mg base 1 (He.ga K "House") "panes" ["self"] [] (spRowsH K (He.ga K "House") 20 (fun S => S.fl.panes.map paneD)) := ⟨cl_House, _, _, [], fn_cx (ok_panesM F_House_panes hC), mt_House_panes, .nil, F_House_panes.bindsN (fun _ _ _ _ _ _ us hl => match us, hl with | [_], _ => rfl)⟩
  have M_looks : MetX P w K mg base 1 (He.ga K "House") "looks" ["self"] [] (spRowsH K (He.ga K "House") 20 (fun S => S.looks.map lookD)) := ⟨cl_House, _, _, [], fn_cx (ok_looksM F_House_looks hC), mt_House_looks, .nil, F_House_looks.bindsN (fun _ _ _ _ _ _ us hl => match us, hl with | [_], _ => rfl)⟩
  have M_coming : MetX P w K mg base 1 (He.ga K "House") "coming" ["self", "sort"] [] (spComing K (He.ga K "House") 20) := ⟨cl_House, _, _, [], fn_cx (ok_coming F_House_coming hC), mt_House_coming, .nil, F_House_coming.bindsN (fun _ _ _ _ _ _ us hl => match us, hl with | [_, _], _ => rfl)⟩
  have ORL : ∀ base : Heap, Own P w K mg base 10 "_law_tried" ["_law_act"] (spTried P w K mg base 9 lamQ (He.ga K "NoThing") (He.ga K "NoLook") (He.ga K "Looked") (He.ga K "BadText") (He.ga K "ShadeError") (He.ga K "Missing") (He.ga K "Crowded")) := fun base => own_of F__law_tried m__law_tried (ok_tried (k := 9) (q := lamQ) F__law_tried ct) (fun _ _ _ _ _ _ us hl => match us, hl with | [_], _ => rfl)
  have ORT : ∀ base : Heap, Own P w K mg base 10 "_law_tried" ["_law_act"] (spTried P w K mg base 9 telQ (He.ga K "NoThing") (He.ga K "NoLook") (He.ga K "Looked") (He.ga K "BadText") (He.ga K "ShadeError") (He.ga K "Missing") (He.ga K "Crowded")) := fun base => own_of F__law_tried m__law_tried (ok_tried (k := 9) (q := telQ) F__law_tried ct) (fun _ _ _ _ _ _ us hl => match us, hl with | [_], _ => rfl)
  have OL : ∀ base : Heap, Own P w K mg base 11 "_law_all_tried" ["_law_acts"] (spAll P w K mg base 9 lamQ (He.ga K "NoThing") (He.ga K "NoLook") (He.ga K "Looked") (He.ga K "BadText") (He.ga K "ShadeError") (He.ga K "Missing") (He.ga K "Crowded")) := fun base => own_of F__law_all_tried m__law_all_tried (ok_all F__law_all_tried (ORL base)) (fun _ _ _ _ _ _ us hl => match us, hl with | [_], _ => rfl)
  have O__law_same := own_of F__law_same m__law_same (ok_same (P := P) (w := w) (base := base) F__law_same m__law_same g_len g_isinstance g_bool g_int g_str g_list g_tuple g_all g_range 6) (fun _ _ _ _ _ _ us hl => match us, hl with | [_, _], _ => rfl)
  have O__law_pull := own_of F__law_pull m__law_pull (ok_pull (P := P) (w := w) (mg := mg) (base := base) F__law_pull g_len) (fun _ _ _ _ _ _ us hl => match us, hl with | [_, _], _ => rfl)
  have O__law_bag := own_of F__law_bag m__law_bag (ok_bag (P := P) (w := w) (mg := mg) (base := base) F__law_bag g_len g_list) (fun _ _ _ _ _ _ us hl => match us, hl with | [_], _ => rfl)
  have O__law_far := own_of F__law_far m__law_far (ok_far (P := P) (w := w) (mg := mg) (base := base) F__law_far O__law_pull) (fun _ _ _ _ _ _ us hl => match us, hl with | [_], _ => rfl)
  have O__law_grid := own_of F__law_grid m__law_grid (ok_grid (P := P) (w := w) (mg := mg) (base := base) F__law_grid O__law_pull) (fun _ _ _ _ _ _ us hl => match us, hl with | [_], _ => rfl)
  have O__law_spot := own_of F__law_spot m__law_spot (ok_spot (P := P) (w := w) (mg := mg) (base := base) F__law_spot O__law_pull) (fun _ _ _ _ _ _ us hl => match us, hl with | [_, _], _ => rfl)
  have O__law_other_spot := own_of F__law_other_spot m__law_other_spot (ok_other (P := P) (w := w) (mg := mg) (base := base) F__law_other_spot O__law_spot) (fun _ _ _ _ _ _ us hl => match us, hl with | [_, _, _], _ => rfl)
  have O__law_tint := own_of F__law_tint m__law_tint (ok_tint (P := P) (w := w) (mg := mg) (base := base) F__law_tint O__law_pull g_range g_tuple) (fun _ _ _ _ _ _ us hl => match us, hl with | [_], _ => rfl)
  have O__law_block := own_of F__law_block m__law_block (ok_block (P := P) (w := w) (mg := mg) (base := base) F__law_block O__law_pull O__law_spot g_min) (fun _ _ _ _ _ _ us hl => match us, hl with | [_, _], _ => rfl)
  have O__law_letters := own_of F__law_letters m__law_letters (ok_letters (P := P) (w := w) (mg := mg) (base := base) F__law_letters O__law_pull) (fun _ _ _ _ _ _ us hl => match us, hl with | [_], _ => rfl)
  have O__law_thing_deed := own_of F__law_thing_deed m__law_thing_deed (ok_thingD (P := P) (w := w) (mg := mg) (base := base) F__law_thing_deed O__law_spot O__law_tint O__law_block O__law_other_spot O__law_letters) (fun _ _ _ _ _ _ us hl => match us, hl with | [_, _, _], _ => rfl)
  have O__law_unsure_deed := own_of F__law_unsure_deed m__law_unsure_deed (ok_unsD (P := P) (w := w) (mg := mg) (base := base) F__law_unsure_deed O__law_pull O__law_spot O__law_tint g_range g_len g_tuple) (fun _ _ _ _ _ _ us hl => match us, hl with | [_, _, _], _ => rfl)
  have O__law_new := own_of F__law_new m__law_new (ok_newM (P := P) (w := w) (mg := mg) (base := base) F__law_new ) (fun _ _ _ _ _ _ us hl => match us, hl with | [], _ => rfl)
  have O__law_copy := own_of F__law_copy m__law_copy (ok_copyM (P := P) (w := w) (mg := mg) (base := base) F__law_copy g_dict) (fun _ _ _ _ _ _ us hl => match us, hl with | [_], _ => rfl)
  have O__law_beyond := own_of F__law_beyond m__law_beyond (ok_beyond (P := P) (w := w) (mg := mg) (base := base) F__law_beyond g_any g_abs) (fun _ _ _ _ _ _ us hl => match us, hl with | [_], _ => rfl)
  have O__law_bad_choice := own_of F__law_bad_choice m__law_bad_choice (ok_badC (P := P) (w := w) (mg := mg) (base := base) F__law_bad_choice O__law_beyond g_all) (fun _ _ _ _ _ _ us hl => match us, hl with | [_], _ => rfl)
  have O__law_counts := own_of F__law_counts m__law_counts (ok_countsM (P := P) (w := w) (mg := mg) (base := base) (n := 20) F__law_counts g_len g_sorted) (fun _ _ _ _ _ _ us hl => match us, hl with | [_], _ => rfl)
  have O__law_product := own_of F__law_product m__law_product (ok_prodW (P := P) (w := w) (mg := mg) (base := base) F__law_product ) (fun _ _ _ _ _ _ us hl => match us, hl with | [_], _ => rfl)
  have O__law_due_lamp := own_of F__law_due_lamp m__law_due_lamp (ok_dueL (P := P) (w := w) (mg := mg) (base := base) F__law_due_lamp O__law_bad_choice O__law_product O__law_counts g_len g_set g_list) (fun _ _ _ _ _ _ us hl => match us, hl with | [_, _], _ => rfl)
  have O__law_due_thing := own_of F__law_due_thing m__law_due_thing (ok_dueT (P := P) (w := w) (mg := mg) (base := base) F__law_due_thing O__law_beyond g_len) (fun _ _ _ _ _ _ us hl => match us, hl with | [_, _], _ => rfl)
  have O__law_put := own_of F__law_put m__law_put (ok_putM (P := P) (w := w) (mg := mg) (base := base) F__law_put O__law_copy) (fun _ _ _ _ _ _ us hl => match us, hl with | [_, _, _], _ => rfl)
  have O__law_after_put := own_of F__law_after_put m__law_after_put (ok_afterU (P := P) (w := w) (mg := mg) (base := base) (n := 20) F__law_after_put O__law_put g_tuple) (fun _ _ _ _ _ _ us hl => match us, hl with | [_, _], _ => rfl)
  have O__law_number_due := own_of F__law_number_due m__law_number_due (ok_numD (P := P) (w := w) (mg := mg) (base := base) F__law_number_due ) (fun _ _ _ _ _ _ us hl => match us, hl with | [_, _], _ => rfl)
  have O__law_put_deed := own_of F__law_put_deed m__law_put_deed (ok_putDeed (P := P) (w := w) (mg := mg) (base := base) F__law_put_deed O__law_pull O__law_far O__law_thing_deed O__law_unsure_deed g_len g_tuple g_range) (fun _ _ _ _ _ _ us hl => match us, hl with | [_, _, _], _ => rfl)
  have O__law_things_so := own_of F__law_things_so m__law_things_so (ok_thingsSo (P := P) (w := w) (mg := mg) (base := base) F__law_things_so M_lamps M_posts M_panes M_looks M_coming O__law_same g_sorted g_tuple) (fun _ _ _ _ _ _ us hl => match us, hl with | [_, _], _ => rfl)
  have FT : FnOk P w K mg base CX0 11 (He.ga K "_law_tells") _ ["_law_house", "_law_m", "_law_deed", "_law_bad"] (spTells K (He.ga K "House") [(He.tabOf K c2, telQ), (He.tabOf K cc, lamQ)]) := L2.fn_of lk2 hcd2 scTells (fun vs H Q E h => by
      obtain ⟨h, m, d, dx, p, q, k, vb, M, D, rfl, _⟩ := h
      rfl) (fun A outer s H vs Q E hr h => tells_body hr (fun b _ => ORT b) O__law_same O__law_number_due (fun b _ => (PR b).1) hW TB2 (List.mem_cons_self ..) (fun p hp e => by
      rcases List.mem_cons.mp hp with q | q
      · rw [q]
      · rw [List.mem_singleton.mp q] at e
        exact absurd e.symm ntab) h)
  have O__law_tells := own_of F__law_tells m__law_tells FT (fun _ _ _ _ _ _ us hl => match us, hl with | [_, _, _, _], _ => rfl)
  refine L2.fn_of lk hcd scLaw (fun vs H Q E h => ?_) (fun A outer s H vs Q E hr h => law_body hr O__law_bag O__law_pull O__law_grid O__law_new O__law_put_deed O__law_due_lamp O__law_due_thing O__law_tells O__law_after_put O__law_things_so O__law_same (PR base).2.1 (fun b _ => (PR b).2.2.1) (fun b _ => (PR b).2.2.2) ⟨_, _, _, mt_House___len__.at_, mt_House___len__.fn, ok_lenM F_House___len__ hC g_len, F_House___len__.bindsN (fun _ _ _ _ _ _ us hl => match us, hl with | [_], _ => rfl)⟩ (He.eqO_ok xm_nobool) (fun b _ => ORL b) (fun b _ => OL b) hW (wordB_ok xm_wBadSort) TB (List.mem_cons_of_mem _ (List.mem_singleton.mpr rfl)) (fun p hp e => by
    rcases List.mem_cons.mp hp with q | q
    · rw [q] at e
      exact absurd e ntab
    · rw [List.mem_singleton.mp q]) g_range g_len g_bool h)
  obtain ⟨a, ns, rfl, _⟩ := h
  rfl
end Hs
open PySem PySem.W PySem.Calls PyProof.Rows
theorem PySem.Challenge.cw_hueshade_k42_things_put_on_a_floor_holds : PySem.Challenge.rw_hueshade_k42_things_put_on_a_floor.Holds := by
  refine ⟨Hs.pre_l, ?_⟩
  refine HandSHeadRun.head_any (r := OpenLaw.row PySem.Challenge.rw_hueshade_k42_things_put_on_a_floor) (q := view (OpenLaw.row PySem.Challenge.rw_hueshade_k42_things_put_on_a_floor).prog [133]) (H := Hs.hk) (ob := Hs.ob) (M := 20000) (loose := Hs.others) (d := HandSHeadRun.topDef (OpenLaw.row PySem.Challenge.rw_hueshade_k42_things_put_on_a_floor).prog 133) (kwd := []) Hs.ob_eq
    Hs.pre_e Hs.pre_f Hs.run Hs.pre_def Hs.pre_p Hs.pre_k (by rfl) Hs.pre_ws Hs.pre_ok Hs.pre_b ?hw ?hc
  case hw => exact Hs.pre_w
  case hc =>
    refine LamX.walk_ofTsE (l := PySem.Challenge.rw_hueshade_k42_things_put_on_a_floor) (n := 63) (k := 13) (x := "_law_script") (CX := fun _ => L2.CX0) rfl (by decide) (by kernel_rfl) ⟨rfl, by decide, by decide⟩ ?F (fun _ _ _ _ _ z => z)
    intro w mg fa h Y G hmg0
    obtain ⟨K, KX, c⟩ := Y
    have hmg : mg ("law" : PySem.Str) = some (.ref fa) := by
      have e : (HandSHeadRun.topDef (OpenLaw.row PySem.Challenge.rw_hueshade_k42_things_put_on_a_floor).prog 133).name = ("law" : PySem.Str) := by kernel_rfl
      rw [← e]
      exact hmg0
    obtain ⟨fd, cc, pt, c2, p2, ⟨h1, h2, h3⟩, ⟨g1, g2, g3⟩, hb, hF⟩ := Hs.facts (P := (PySem.Challenge.rw_hueshade_k42_things_put_on_a_floor).prog) (w := w) (by kernel_rfl) (by kernel_rfl) KX G hmg c
    have two : ∀ p : Addr × Addr, p ∈ [(c2, p2), (cc, pt)] → p = (c2, p2) ∨ p = (cc, pt) := fun p hp => (List.mem_cons.mp hp).imp id List.mem_singleton.mp
    refine ⟨K, KX, fd, [(c2, p2), (cc, pt)], Hs.spLaw K [(p2, Hs.telQ), (pt, Hs.lamQ)], fun p hp => ?_, fun p hp => ?_, fun p hp => ?_, hb, fun H a ns hl _ hT hS => ⟨a, ns, rfl, hS, hl, fun p hp => ?_, fun _ => rfl⟩, fun base _ _ hB => hF base (hB (cc, pt) (List.mem_cons_of_mem _ (List.mem_singleton.mpr rfl))) (hB (c2, p2) (List.mem_cons_self ..))⟩
    · rcases two p hp with e | e <;> rw [e]
      · exact g1
      · exact h1
    · rcases two p hp with e | e <;> rw [e]
      · exact g2
      · exact h2
    · rcases two p hp with e | e <;> rw [e]
      · exact g3
      · exact h3
    · rcases List.mem_cons.mp hp with e | e
      · rw [e]
        exact LamX.TabS.nil (hT (c2, p2) (List.mem_cons_self ..))
      · rw [List.mem_singleton.mp e]
        exact LamX.TabS.nil (hT (cc, pt) (List.mem_cons_of_mem _ (List.mem_singleton.mpr rfl)))
